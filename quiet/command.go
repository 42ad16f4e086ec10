package quiet

import (
	"leak/api"
	"leak/circuit"
	"leak/syntax"
)

func (w *watcher) value(state [][]int, x syntax.Operand) []int {
	if x.Named {
		return state[x.Number]
	}
	return circuit.Constant(w.head.Width, x.Number)
}

func (w *watcher) isNotNought(state [][]int, x syntax.Operand) int {
	return w.circuit.IsAny(w.value(state, x))
}

// with tells a state in which one word is another one.
func with(state [][]int, number int, word []int) [][]int {
	changed := make([][]int, len(state))
	copy(changed, state)
	changed[number] = word
	return changed
}

func (w *watcher) set(c syntax.Command, p pair) pair {
	if syntax.Divides(c.Op) {
		p = w.seeDivision(c, p)
	}
	bare := w.circuit.Merge(w.apply(c, p.bare))
	free := w.circuit.Merge(w.apply(c, p.free))
	p.free = with(p.free, c.Var, free)
	p.bare = with(p.bare, c.Var, bare)
	return p
}

// seeDivision lets be seen what is seen of a division. The runs go on where the
// divisor is not 0.
func (w *watcher) seeDivision(c syntax.Command, p pair) pair {
	free := w.circuit.Lengths(w.value(p.free, c.Y))
	bare := w.circuit.Lengths(w.value(p.bare, c.Y))
	w.see(p, free[:1], bare[:1])
	goesOn := bare[0]
	if w.view == api.Time {
		w.see(p, free, bare)
		free = w.circuit.Lengths(w.value(p.free, c.X))
		bare = w.circuit.Lengths(w.value(p.bare, c.X))
		w.see(p, free, bare)
	}
	p.alive = w.circuit.And(p.alive, goesOn)
	return p
}

func (w *watcher) load(c syntax.Command, p pair) pair {
	p = w.seeWord(c, p)
	bare := w.circuit.Merge(w.pick(c, p.bare))
	free := w.circuit.Merge(w.pick(c, p.free))
	p.free = with(p.free, c.Var, free)
	p.bare = with(p.bare, c.Var, bare)
	return p
}

// pick tells the word that is loaded.
func (w *watcher) pick(c syntax.Command, state [][]int) []int {
	at := w.value(state, c.X)
	return w.circuit.Pick(state[w.head.Vars:], at)
}

func (w *watcher) store(c syntax.Command, p pair) pair {
	p = w.seeWord(c, p)
	p.free = w.put(c, p.free)
	p.bare = w.put(c, p.bare)
	return p
}

// put tells the state behind a store.
func (w *watcher) put(c syntax.Command, state [][]int) [][]int {
	at := w.value(state, c.X)
	word := w.value(state, c.Y)
	changed := make([][]int, len(state))
	copy(changed, state)
	for i := w.head.Vars; i < len(state); i++ {
		is := w.circuit.Is(at, i-w.head.Vars)
		changed[i] = w.circuit.ChoiceOfWords(is, word, state[i])
	}
	return changed
}

// seeWord lets be seen what is seen of a load or a store. The runs go on where
// there is such a word. What is seen of its number is the same in both, so the
// free run may take it from the bare one from then on: the fewer bits hang on
// secrets, the easier the questions that come.
func (w *watcher) seeWord(c syntax.Command, p pair) pair {
	free := w.value(p.free, c.X)
	bare := w.value(p.bare, c.X)
	w.see(p, w.shown(free), w.shown(bare))
	isThere := w.circuit.IsBelow(free, w.head.Words)
	goesOn := w.circuit.IsBelow(bare, w.head.Words)
	w.see(p, []int{isThere}, []int{goesOn})
	free = w.adopt(free, bare)
	w.numbers = append(w.numbers, free...)
	if c.X.Named {
		p.free = with(p.free, c.X.Number, free)
	}
	p.alive = w.circuit.And(p.alive, goesOn)
	return p
}

// shown tells the bits of a word's number that are seen.
func (w *watcher) shown(number []int) []int {
	return number[w.hidden():]
}

// adopt tells the number that has the bits that are seen from another one.
func (w *watcher) adopt(free, bare []int) []int {
	var number []int
	number = append(number, free[:w.hidden()]...)
	number = append(number, bare[w.hidden():]...)
	return number
}

// hidden tells how many bits of a word's number are not seen.
func (w *watcher) hidden() int {
	bits := w.view - api.Line
	if bits < 0 {
		return 0
	}
	if bits > w.head.Width {
		return w.head.Width
	}
	return bits
}

// apply tells what a set makes its variable.
func (w *watcher) apply(c syntax.Command, state [][]int) []int {
	x := w.value(state, c.X)
	y := w.value(state, c.Y)
	switch c.Op {
	case syntax.Add:
		return w.circuit.Sum(x, y)
	case syntax.And:
		return w.circuit.AndWords(x, y)
	case syntax.Or:
		return w.circuit.OrWords(x, y)
	case syntax.Xor:
		return w.circuit.XorWords(x, y)
	case syntax.Equal:
		return w.truth(w.circuit.Differ(x, y) ^ 1)
	case syntax.Up:
		return w.circuit.Up(x, y)
	case syntax.Down:
		return w.circuit.Down(x, y)
	case syntax.Subtract:
		return w.circuit.Difference(x, y)
	case syntax.Below:
		return w.truth(w.circuit.IsLess(x, y))
	}
	return w.divide(c.Op, x, y)
}

func (w *watcher) divide(operation byte, x, y []int) []int {
	quotient, rest := w.circuit.Divide(x, y)
	if operation == syntax.Quotient {
		return quotient
	}
	return rest
}

// truth tells the word that is 1, if an edge holds, else 0.
func (w *watcher) truth(e int) []int {
	word := circuit.Constant(w.head.Width, 0)
	word[0] = e
	return word
}
