// Package machine runs what package syntax has read.
package machine

import (
	"leak/api"
	"leak/syntax"
)

// A machine is a run under way.
type machine struct {
	head    syntax.Head
	view    int
	state   []int // of each variable, then of each word
	seen    []byte
	path    []int // the number of the command of each step
	trapped bool
}

// Run runs a kernel or a code. The list must be an input of it.
func Run(p syntax.Program, view int, in []int, fuel int) api.Result {
	m := begin(p.Head, view, in)
	tag := m.run(p.Commands, fuel)
	return api.Result{Tag: tag, Steps: len(m.path), Seen: string(m.seen), State: m.state}
}

// Path tells the numbers of the commands that are done in a run. They are the
// same in every view.
func Path(p syntax.Program, in []int, fuel int) []int {
	m := begin(p.Head, api.Base, in)
	m.run(p.Commands, fuel)
	return m.path
}

func begin(h syntax.Head, view int, in []int) machine {
	state := make([]int, len(in))
	copy(state, in)
	return machine{head: h, view: view, state: state}
}

// run takes steps until the run ends, and tells its tag. It serves kernels and
// codes alike: of a code, the line that ends it leads to the end by a step.
func (m *machine) run(commands []syntax.Command, fuel int) int {
	at := 0
	for at < len(commands) {
		if len(m.path) >= fuel {
			return api.Fuel
		}
		m.path = append(m.path, at)
		at = m.step(commands[at])
		if m.trapped {
			return api.Trap
		}
	}
	return api.Halt
}

// step does one command and tells the number of the one that follows.
func (m *machine) step(c syntax.Command) int {
	switch c.Kind {
	case syntax.Set:
		m.set(c)
	case syntax.Load:
		m.load(c)
	case syntax.Store:
		m.store(c)
	case syntax.Branch, syntax.Loop, syntax.Zero:
		return m.test(c)
	}
	return c.Yes
}

func (m *machine) value(o syntax.Operand) int {
	if o.Named {
		return m.state[o.Number]
	}
	return o.Number
}

func (m *machine) set(c syntax.Command) {
	x := m.value(c.X)
	y := m.value(c.Y)
	if syntax.Divides(c.Op) {
		m.seeDivision(x, y)
	}
	if !m.trapped {
		m.state[c.Var] = apply(m.head, c.Op, x, y)
	}
}

func (m *machine) load(c syntax.Command) {
	x := m.value(c.X)
	m.seeWord(x)
	if !m.trapped {
		m.state[c.Var] = m.state[m.head.Vars+x]
	}
}

func (m *machine) store(c syntax.Command) {
	x := m.value(c.X)
	m.seeWord(x)
	if !m.trapped {
		m.state[m.head.Vars+x] = m.value(c.Y)
	}
}

func (m *machine) test(c syntax.Command) int {
	if m.value(c.X) != 0 {
		m.see('t')
		return c.Yes
	}
	m.see('f')
	return c.No
}
