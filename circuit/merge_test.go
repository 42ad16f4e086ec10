package circuit

import (
	"math/bits"
	"math/rand"
	"slices"
	"testing"

	"leak/solver"
)

// TestMergeMade: an edge is merged with one that does the same, and with no other.
func TestMergeMade(t *testing.T) {
	r := rand.New(rand.NewSource(65))
	for range 500 {
		m := newMade(1 + r.Intn(5))
		first := map[uint64]int{0: False}
		for range 40 {
			m.grow(r)
			e, table := m.any(r)
			merged := m.merge(e)
			if got := m.truth(merged, m.n); got != table {
				t.Fatalf("edge %d gives %b, and %b when it is merged", e, table, got)
			}
			contrary := ^table & (1<<(1<<m.n) - 1)
			known, ok := first[table]
			if ok && known != merged {
				t.Fatalf("edges %d and %d do the same, and were not merged", known, merged)
			}
			first[table], first[contrary] = merged, merged^1
		}
	}
}

// TestMergeWords: words that come to be the same by different ways are the same
// when they are merged.
func TestMergeWords(t *testing.T) {
	for _, width := range []int{1, 4, 8} {
		c := New()
		x, y := c.Inputs(width), c.Inputs(width)
		odd := c.OrWords(y, Constant(width, 1))
		both, either, sum := c.AndWords(x, y), c.OrWords(x, y), c.XorWords(x, y)
		carried := c.Up(both, Constant(width, 1))
		_, rest := c.Divide(x, odd)
		_, again := c.Divide(rest, odd)
		for i, p := range [][2][]int{
			{sum, c.Difference(either, both)},
			{c.Sum(x, y), c.Sum(sum, carried)},
			{c.Sum(y, x), c.Sum(both, either)},
			{rest, again},
			{{c.IsLess(x, y)}, {c.IsAny(c.Lengths([]int{c.IsLess(x, y)}))}},
			{{True}, {c.IsLess(rest, odd)}},
			{Constant(width, 0), c.AndWords(c.Difference(either, both), both)},
		} {
			if first, second := c.Merge(p[0]), c.Merge(p[1]); !slices.Equal(first, second) {
				t.Errorf("width %d: %d: %v and %v", width, i, first, second)
			}
		}
		onlyY := c.Difference(either, x)
		if got := c.Merge(c.Sum(both, onlyY)); !slices.Equal(got, y) {
			t.Errorf("width %d: %v, want what goes in: %v", width, got, y)
		}
	}
}

// TestMergeSums: a sum is still known as one when it has been merged.
func TestMergeSums(t *testing.T) {
	c := New()
	x, y, z := c.Inputs(8), c.Inputs(8), c.Inputs(8)
	sum := c.Merge(c.Sum(x, y))
	half, carried := c.XorWords(x, y), c.Up(c.AndWords(x, y), Constant(8, 1))
	other := c.Sum(half, carried)
	if slices.Equal(sum, other) || !slices.Equal(sum, c.Merge(other)) {
		t.Fatalf("%v and %v", sum, other)
	}
	if got := c.Sum(carried, half); !slices.Equal(got, sum) {
		t.Errorf("the sum was merged as %v, and is told as %v", sum, got)
	}
	if first, second := c.Sum(sum, z), c.Sum(y, c.Sum(z, x)); !slices.Equal(first, second) {
		t.Errorf("%v and %v", first, second)
	}
}

// TestDoubts: edges that only seem to do the same are not held against each other
// for ever.
func TestDoubts(t *testing.T) {
	c := New()
	word := c.Inputs(40)
	var merged []int
	for value := range 3 * mostDoubts {
		merged = append(merged, c.merge(c.Is(word, 1<<35+value)))
	}
	if c.doubts != mostDoubts {
		t.Errorf("%d doubts", c.doubts)
	}
	slices.Sort(merged)
	if len(slices.Compact(merged)) != 3*mostDoubts {
		t.Error("edges that do not do the same were merged")
	}
	if !c.asks(c.Is(word, 1<<35+7)) || c.Value(word) != 1<<35+7 {
		t.Errorf("%b was found", c.Value(word))
	}
}

// rows makes words of n bits, each of which is the sum of the two behind it, by
// divisions, and tells them and the edge that holds if they are.
func rows(c *Circuit, n, words int) ([][]int, int) {
	var row [][]int
	for range words {
		row = append(row, c.Inputs(n))
	}
	e := True
	for i := range words - 2 {
		quotient, rest := c.Divide(row[i], row[i+1])
		e = c.And(e, c.Differ(rest, row[i+2])^1)
		e = c.And(e, c.Is(quotient, 1))
	}
	return row, e
}

// TestHaste: edges that only seem to do the same are not merged if the solver gives
// up on them.
func TestHaste(t *testing.T) {
	c := New()
	c.haste = 1
	_, e := rows(c, 8, 6)
	if c.merge(e) != e || c.doubts != 1 {
		t.Errorf("edge %d was merged, with %d doubts", e, c.doubts)
	}
	c.nameAll(e / 2)
	if c.search(e, 1) != solver.GivenUp {
		t.Error("the solver does not give up")
	}
	if c.Hurry(); c.haste != moreHaste || moreHaste >= usualHaste {
		t.Errorf("in a hurry it takes %d conflicts", c.haste)
	}
}

// TestHardQuestions: a question that takes the solver some conflicts is answered,
// whether all values can be tried or not.
func TestHardQuestions(t *testing.T) {
	for _, n := range []int{4, 8} {
		c := New()
		row, e := rows(c, n, 6)
		if (c.newTrial(e).conflicts() > 0) != (n == 4) {
			t.Errorf("%d bits each are not what they were meant to be", n)
		}
		if n == 4 && !c.try(e) {
			t.Error("all were tried in vain")
		}
		if !c.asks(e) || c.Value(row[0]) != c.Value(row[1])+c.Value(row[2]) || c.Value(row[3]) != c.Value(row[4])+c.Value(row[5]) {
			t.Errorf("%d bits: nothing right was found", n)
		}
		no := c.And(e, c.IsLess(row[2], row[3]))
		if n == 4 && c.try(no) || c.asks(no) {
			t.Errorf("%d bits: what is not was found", n)
		}
	}
}

// TestGiveUp: a question is given up behind some conflicts if there are too many
// values to try them all, and only then.
func TestGiveUp(t *testing.T) {
	for _, n := range []int{4, 8} {
		c := New()
		row, e := rows(c, n, 6)
		no := c.And(e, c.IsLess(row[2], row[3]))
		if a := c.Ask(no, 1); a == GivenUp != (n == 8) || a == Yes {
			t.Errorf("%d bits: the answer is %d", n, a)
		}
		if a := c.Ask(e, 1); n == 4 && a != Yes || a == No {
			t.Errorf("%d bits: the answer is %d", n, a)
		}
		if a := c.Ask(no, 1<<30); a != No {
			t.Errorf("%d bits: the answer is %d at last", n, a)
		}
		if c.Ask(False, 1) != No || c.Ask(True, 1) != Yes {
			t.Error("what is known is asked in vain")
		}
	}
}

// parity tells the edge that holds if the bits of a word that are in a row of bits
// add up to what they do not for a value.
func parity(c *Circuit, word []int, row, value int) int {
	edge := bits.OnesCount(uint(row&value)) % 2
	for i, x := range word {
		if row>>i&1 == 1 {
			edge = c.Xor(edge, x)
		}
	}
	return edge
}

// parities makes an edge that holds if n bits that go in are one value, as far as
// their parities tell; and if, beyond that, one parity is wrong that follows.
func parities(r *rand.Rand, n int, wrong bool) (*Circuit, []int, int) {
	c := New()
	word := c.Inputs(n)
	value := r.Intn(1 << n)
	e, sum := True, 0
	for range n {
		row := r.Intn(1 << n)
		e = c.And(e, parity(c, word, row, value)^1)
		if r.Intn(2) == 0 {
			sum ^= row
		}
	}
	if wrong {
		e = c.And(e, parity(c, word, sum, value))
	}
	return c, word, e
}

// TestTurns: where the solver takes too long, all values are tried, whether there
// are any to be found or not.
func TestTurns(t *testing.T) {
	givenUp := [2]int{}
	for seed := range int64(12) {
		wrong := seed%2 == 1
		c, word, e := parities(rand.New(rand.NewSource(seed)), 20, wrong)
		if c.asks(e) == wrong || !wrong && !holds(c, e, word) {
			t.Errorf("%d: Ask is not %v", seed, !wrong)
		}
		c, _, e = parities(rand.New(rand.NewSource(seed)), 20, wrong)
		c.nameAll(e / 2)
		if c.solver.SolveIf(c.numberOf(e), c.newTrial(e).conflicts()) == solver.GivenUp {
			givenUp[seed%2]++
		}
	}
	if givenUp[0] == 0 || givenUp[1] == 0 {
		t.Errorf("the solver gives up %v times", givenUp)
	}
}

// holds tells whether an edge holds by the values that were found of a word that is
// all that goes in.
func holds(c *Circuit, e int, word []int) bool {
	return valueIn(c.run(bitsOf(c.Value(word), len(word))), []int{e}) == 1
}
