package circuit

import (
	"math/rand"
	"slices"
	"testing"

	"leak/solver"
)

// TestMergeMade: an edge is merged with one that does the same, and with no other.
func TestMergeMade(t *testing.T) {
	r := rand.New(rand.NewSource(65))
	for range 500 {
		m := newMade(1 + r.Intn(5))
		first := map[uint64]int{0: False}
		for range 40 {
			m.grow(r)
			e, table := m.any(r)
			merged := m.merge(e)
			if got := m.truth(merged, m.n); got != table {
				t.Fatalf("edge %d gives %b, and %b when it is merged", e, table, got)
			}
			contrary := ^table & (1<<(1<<m.n) - 1)
			known, ok := first[table]
			if ok && known != merged {
				t.Fatalf("edges %d and %d do the same, and were not merged", known, merged)
			}
			first[table], first[contrary] = merged, merged^1
		}
	}
}

// TestMergeWords: words that come to be the same by different ways are the same
// when they are merged.
func TestMergeWords(t *testing.T) {
	for _, width := range []int{1, 4, 8} {
		c := New()
		x, y := c.Inputs(width), c.Inputs(width)
		odd := c.OrWords(y, Constant(width, 1))
		both, either, sum := c.AndWords(x, y), c.OrWords(x, y), c.XorWords(x, y)
		carried := c.Up(both, Constant(width, 1))
		_, rest := c.Divide(x, odd)
		_, again := c.Divide(rest, odd)
		for i, p := range [][2][]int{
			{sum, c.Difference(either, both)},
			{c.Sum(x, y), c.Sum(sum, carried)},
			{c.Sum(y, x), c.Sum(both, either)},
			{rest, again},
			{{c.IsLess(x, y)}, {c.IsAny(c.Lengths([]int{c.IsLess(x, y)}))}},
			{{True}, {c.IsLess(rest, odd)}},
			{Constant(width, 0), c.AndWords(c.Difference(either, both), both)},
		} {
			if first, second := c.Merge(p[0]), c.Merge(p[1]); !slices.Equal(first, second) {
				t.Errorf("width %d: %d: %v and %v", width, i, first, second)
			}
		}
		onlyY := c.Difference(either, x)
		if got := c.Merge(c.Sum(both, onlyY)); !slices.Equal(got, y) {
			t.Errorf("width %d: %v, want what goes in: %v", width, got, y)
		}
	}
}

// TestMergeSums: a sum is still known as one when it has been merged.
func TestMergeSums(t *testing.T) {
	c := New()
	x, y, z := c.Inputs(8), c.Inputs(8), c.Inputs(8)
	sum := c.Merge(c.Sum(x, y))
	half, carried := c.XorWords(x, y), c.Up(c.AndWords(x, y), Constant(8, 1))
	other := c.Sum(half, carried)
	if slices.Equal(sum, other) || !slices.Equal(sum, c.Merge(other)) {
		t.Fatalf("%v and %v", sum, other)
	}
	if got := c.Sum(carried, half); !slices.Equal(got, sum) {
		t.Errorf("the sum was merged as %v, and is told as %v", sum, got)
	}
	if first, second := c.Sum(sum, z), c.Sum(y, c.Sum(z, x)); !slices.Equal(first, second) {
		t.Errorf("%v and %v", first, second)
	}
}

// TestDoubts: edges that only seem to do the same are not held against each other
// for ever.
func TestDoubts(t *testing.T) {
	c := New()
	word := c.Inputs(40)
	var merged []int
	for value := range 3 * mostDoubts {
		merged = append(merged, c.merge(c.Is(word, 1<<35+value)))
	}
	if c.doubts != mostDoubts {
		t.Errorf("%d doubts", c.doubts)
	}
	slices.Sort(merged)
	if len(slices.Compact(merged)) != 3*mostDoubts {
		t.Error("edges that do not do the same were merged")
	}
	if !c.Ask(c.Is(word, 1<<35+7)) || c.Value(word) != 1<<35+7 {
		t.Errorf("%b was found", c.Value(word))
	}
}

// TestGivenUp: a question that the solver gives up at first, and that hangs on too
// many bits to try all, is answered all the same; and an edge is not merged with one
// that only seems to do the same.
func TestGivenUp(t *testing.T) {
	c := New()
	c.patience = 1
	c.haste = 1
	words := [][]int{c.Inputs(8), c.Inputs(8), c.Inputs(8), c.Inputs(8), c.Inputs(8), c.Inputs(8)}
	e := True
	for i := range 4 {
		quotient, rest := c.Divide(words[i], words[i+1])
		e = c.And(e, c.Differ(rest, words[i+2])^1)
		e = c.And(e, c.Is(quotient, 1))
	}
	if c.merge(e) != e || c.doubts != 1 {
		t.Errorf("edge %d was merged, with %d doubts", e, c.doubts)
	}
	for _, more := range []int{True, c.IsLess(words[2], words[3])} {
		question := c.And(e, more)
		c.nameAll(question / 2)
		if c.search(question, 1) != solver.GivenUp || c.tryAll(question) != solver.GivenUp {
			t.Fatal("the question is not hard enough")
		}
		if c.Ask(question) != (more == True) {
			t.Errorf("Ask = %v", more != True)
		}
	}
}
