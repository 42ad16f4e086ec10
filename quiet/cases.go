package quiet

import (
	"leak/circuit"
	"leak/syntax"
)

const (
	firstConflicts = 100000 // conflicts until a question is given up, while nothing is known
	laterConflicts = 300    // the same, when some bits are known
	mostCases      = 5000   // cases that are looked at, at most
	mostInputs     = 8      // bits on which one hangs for which it is worth to split
)

// A bit is a bit of an input that is known in a case.
type bit struct {
	word  int // the number of the variable or word in a state
	place int
	value int
}

// Cases are a way through all inputs: it is at those with some bits known.
type cases struct {
	bits []bit
}

// Decide tells whether a kernel without loops is quiet in a view. If not, it tells
// two inputs that are alike, and of which not the same is seen.
func Decide(k syntax.Program, view int) (bool, []int, []int) {
	return decide(k, view, firstConflicts, mostCases)
}

// decide does so. A case in which a question is given up is split in two. If there
// are too many of them, it is all looked at as one, however long that takes.
func decide(k syntax.Program, view, conflicts, most int) (bool, []int, []int) {
	var c cases
	for i := 0; i < most; i++ {
		w := newWatcher(k, view)
		w.conflicts = conflicts
		if len(c.bits) > 0 {
			w.hurry()
		}
		w.watch(&c)
		if w.answer == circuit.GivenUp {
			edge := w.findSplit()
			if edge != circuit.False {
				c.split(w.bitOf(edge))
				continue
			}
			w = newWatcher(k, view)
			w.watch(&c)
		}
		if w.answer == circuit.Yes || !c.next() {
			return w.verdict()
		}
	}
	w := newWatcher(k, view)
	w.watch(&cases{})
	return w.verdict()
}

// hurry lets a watcher give up soon: there may be many cases.
func (w *watcher) hurry() {
	w.conflicts = laterConflicts
	w.circuit.Hurry()
}

// verdict tells whether nothing was found. If something was, it tells the inputs.
func (w *watcher) verdict() (bool, []int, []int) {
	if w.answer == circuit.No {
		return true, nil, nil
	}
	free := w.values(w.first.free)
	bare := w.values(w.first.bare)
	return false, free, bare
}

// split goes on to the first half of a case: a bit more is known.
func (c *cases) split(b bit) {
	c.bits = append(c.bits, b)
}

// next goes on to the next case, and tells whether there is one.
func (c *cases) next() bool {
	last := len(c.bits) - 1
	for last >= 0 && c.bits[last].value == 1 {
		last--
	}
	c.bits = c.bits[:last+1]
	if last < 0 {
		return false
	}
	c.bits[last].value = 1
	return true
}

// known tells a word of the input with the bits that are known.
func (c *cases) known(number int, word []int) []int {
	changed := make([]int, len(word))
	copy(changed, word)
	for i := 0; i < len(c.bits); i++ {
		b := c.bits[i]
		if b.word == number && b.place < len(word) {
			changed[b.place] = b.value
		}
	}
	return changed
}

// findSplit tells a bit that goes in, by which a case is worth splitting, or False.
// It is the number of a word that hangs on it: as long as that is open, whatever is
// made of the words hangs on all of them.
func (w *watcher) findSplit() int {
	edge := circuit.False
	fewest := mostInputs + 1
	for i := 0; i < len(w.numbers); i++ {
		inputs := w.circuit.InputsOf(w.numbers[i])
		if len(inputs) > 0 && len(inputs) < fewest {
			fewest = len(inputs)
			edge = inputs[0]
		}
	}
	return edge
}

// bitOf tells which bit of the input goes in by an edge.
func (w *watcher) bitOf(edge int) bit {
	var b bit
	for i := 0; i < len(w.first.free); i++ {
		word := w.first.free[i]
		for j := 0; j < len(word); j++ {
			if word[j] == edge {
				b = bit{word: i, place: j}
			}
		}
	}
	return b
}
