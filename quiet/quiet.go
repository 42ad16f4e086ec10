// Package quiet decides whether what is seen of a kernel hangs on what is secret.
//
// It follows two runs of the kernel at once, through a circuit: a free run, whose
// input is any, and a bare run, whose input is alike, with 0 for all that is
// secret. If two inputs are alike, and not the same is seen of them, then of one
// of the two not the same is seen as of the bare one. At each command of which
// something is seen it asks whether the two runs can differ in that. As long as
// they cannot, both go the same way, and that way hangs on what is public alone.
//
// Where a question is too hard, it looks at one case after the other instead, in
// each of which some bits of the input are known.
package quiet

import (
	"leak/circuit"
	"leak/syntax"
)

// A watcher goes over the commands of a kernel, in one case.
type watcher struct {
	circuit   *circuit.Circuit
	head      syntax.Head
	commands  []syntax.Command
	view      int
	conflicts int   // conflicts until it gives up on a question, or 0 if it never does
	first     pair  // the runs as they begin
	numbers   []int // edges of the bits of words' numbers that the free run comes to
	answer    int   // whether the runs can differ in what is seen, as a circuit answers it
}

// A pair is two runs that have come to one command. What their states are is
// right where they do come there.
type pair struct {
	free  [][]int // words of the circuit: of each variable, then of each word
	bare  [][]int
	start int // the edge that holds where they come to the body in which the command stands
	alive int // the edge that holds where they have not been trapped in that body
}

func newWatcher(k syntax.Program, view int) *watcher {
	return &watcher{circuit: circuit.New(), head: k.Head, commands: k.Commands, view: view, answer: circuit.No}
}

// watch goes over all commands, in a case.
func (w *watcher) watch(c *cases) {
	w.begin(c)
	w.do(0, len(w.commands), w.first)
}

func (w *watcher) begin(c *cases) {
	p := pair{start: circuit.True, alive: circuit.True}
	for i := 0; i < w.head.Vars+w.head.Words; i++ {
		word := w.circuit.Inputs(w.head.Width)
		word = c.known(i, word)
		p.free = append(p.free, word)
		if !w.head.IsPublic(i) {
			word = circuit.Constant(w.head.Width, 0)
		}
		p.bare = append(p.bare, word)
	}
	w.first = p
}

func (w *watcher) values(state [][]int) []int {
	values := make([]int, len(state))
	for i := 0; i < len(state); i++ {
		values[i] = w.circuit.Value(state[i])
	}
	return values
}

// do does the commands from one number on to another one, which is not done. It
// stops where no run can come, where the runs can differ, and where it gives up.
func (w *watcher) do(from, to int, p pair) pair {
	for at := from; at < to && w.answer == circuit.No && w.reach(p) != circuit.False; {
		c := w.commands[at]
		next := at + 1
		switch c.Kind {
		case syntax.Set:
			p = w.set(c, p)
		case syntax.Load:
			p = w.load(c, p)
		case syntax.Store:
			p = w.store(c, p)
		case syntax.Branch:
			p = w.branch(at, p)
			next = c.Behind
		}
		at = next
	}
	return p
}

// reach tells the edge that holds where the runs come to their command.
func (w *watcher) reach(p pair) int {
	return w.circuit.And(p.start, p.alive)
}

// see asks whether two words, of the one run and of the other one, from which what
// is seen is made, can differ.
func (w *watcher) see(p pair, free, bare []int) {
	if w.answer != circuit.No {
		return
	}
	reach := w.reach(p)
	differ := w.circuit.Differ(free, bare)
	question := w.circuit.And(reach, differ)
	w.answer = w.circuit.Ask(question, w.conflicts)
}

// branch does both bodies of a branch. Behind it, each value is that of the body
// that was done.
func (w *watcher) branch(at int, p pair) pair {
	c := w.commands[at]
	free := w.isNotNought(p.free, c.X)
	bare := w.isNotNought(p.bare, c.X)
	w.see(p, []int{free}, []int{bare})
	if w.answer != circuit.No {
		return p
	}
	reach := w.reach(p)
	yes := p
	yes.start = w.circuit.And(reach, bare)
	yes.alive = circuit.True
	yes = w.do(at+1, c.Second, yes)
	no := p
	no.start = w.circuit.And(reach, bare^1)
	no.alive = circuit.True
	no = w.do(c.Second, c.Behind, no)
	return w.join(p, bare, yes, no)
}

// join tells the pair behind a branch.
func (w *watcher) join(p pair, test int, yes, no pair) pair {
	p.free = w.joinStates(test, yes.free, no.free)
	p.bare = w.joinStates(test, yes.bare, no.bare)
	alive := w.circuit.Choice(test, yes.alive, no.alive)
	p.alive = w.circuit.And(p.alive, alive)
	return p
}

func (w *watcher) joinStates(test int, yes, no [][]int) [][]int {
	state := make([][]int, len(yes))
	for i := 0; i < len(yes); i++ {
		state[i] = w.circuit.ChoiceOfWords(test, yes[i], no[i])
	}
	return state
}
