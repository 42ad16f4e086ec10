// Package machine runs what package syntax has read.
package machine

import (
	"leak/api"
	"leak/syntax"
)

// A machine is a run under way.
type machine struct {
	head    syntax.Head
	view    int
	state   []int // of each variable, then of each word
	seen    []byte
	steps   int
	trapped bool
}

// RunKernel runs a kernel. The list must be an input of it.
func RunKernel(k syntax.Kernel, view int, in []int, fuel int) api.Result {
	m := begin(k.Head, view, in)
	at := 0
	for at < len(k.Commands) {
		if m.steps >= fuel {
			return m.result(api.Fuel)
		}
		at = m.step(k.Commands[at])
		if m.trapped {
			return m.result(api.Trap)
		}
	}
	return m.result(api.Halt)
}

func begin(h syntax.Head, view int, in []int) machine {
	state := make([]int, len(in))
	copy(state, in)
	return machine{head: h, view: view, state: state}
}

func (m *machine) result(tag int) api.Result {
	return api.Result{Tag: tag, Steps: m.steps, Seen: string(m.seen), State: m.state}
}

// step does one command and tells the number of the one that follows.
func (m *machine) step(c syntax.Command) int {
	m.steps++
	switch c.Kind {
	case syntax.Set:
		m.set(c)
	case syntax.Load:
		m.load(c)
	case syntax.Store:
		m.store(c)
	case syntax.Branch, syntax.Loop:
		return m.test(c)
	}
	return c.Yes
}

func (m *machine) value(o syntax.Operand) int {
	if o.Named {
		return m.state[o.Number]
	}
	return o.Number
}

func (m *machine) set(c syntax.Command) {
	x := m.value(c.X)
	y := m.value(c.Y)
	if syntax.Divides(c.Op) {
		m.seeDivision(x, y)
	}
	if !m.trapped {
		m.state[c.Var] = apply(m.head, c.Op, x, y)
	}
}

func (m *machine) load(c syntax.Command) {
	x := m.value(c.X)
	m.seeWord(x)
	if !m.trapped {
		m.state[c.Var] = m.state[m.head.Vars+x]
	}
}

func (m *machine) store(c syntax.Command) {
	x := m.value(c.X)
	m.seeWord(x)
	if !m.trapped {
		m.state[m.head.Vars+x] = m.value(c.Y)
	}
}

func (m *machine) test(c syntax.Command) int {
	if m.value(c.X) != 0 {
		m.see('t')
		return c.Yes
	}
	m.see('f')
	return c.No
}
