package circuit

import (
	"math/bits"
	"math/rand"
	"slices"
	"testing"
)

func one(yes bool) int {
	if yes {
		return 1
	}
	return 0
}

// operands tells pairs of values: all of them, for small widths.
func operands(r *rand.Rand, width int) [][2]int {
	n := 1 << width
	var pairs [][2]int
	for i := 0; i < n*n && i < 300; i++ {
		pair := [2]int{i % n, i / n}
		if n*n > 300 {
			pair = [2]int{r.Intn(n), r.Intn(n)}
			if i%3 == 0 {
				pair[1] = r.Intn(width + 2)
			}
		}
		pairs = append(pairs, pair)
	}
	return pairs
}

// operate builds all operations of two words; given says what they must give.
func (c *Circuit) operate(x, y []int, value int) [][]int {
	n := 1 << len(x)
	quotient, rest := c.Divide(x, y)
	return [][]int{
		c.AndWords(x, y), c.OrWords(x, y), c.XorWords(x, y), c.Sum(x, y), c.Difference(x, y), c.Up(x, y), c.Down(x, y),
		{c.IsLess(x, y)}, {c.Differ(x, y)}, {c.IsAny(x)}, c.Lengths(x), c.ChoiceOfWords(y[0], x, y),
		{c.Is(x, value)}, {c.Is(x, value+n)}, {c.IsBelow(x, value)}, {c.IsBelow(x, value+n)},
		quotient, rest,
	}
}

func given(x, y, n int) []int {
	chosen := x
	if y%2 == 0 {
		chosen = y
	}
	below := 1<<bits.Len(uint(x)) - 1
	list := []int{
		x & y, x | y, x ^ y, (x + y) % n, (x - y + n) % n, x << min(y, 8) % n, x >> min(y, 8),
		one(x < y), one(x != y), one(x != 0), below, chosen,
		one(x == y), 0, one(x < y), 1,
	}
	if y == 0 {
		return list
	}
	return append(list, x/y, x%y)
}

func checkOperations(t *testing.T, c *Circuit, first, second []int, x, y int) {
	t.Helper()
	width := len(first)
	words := c.operate(first, second, y)
	run := c.run(append(bitsOf(x, width), bitsOf(y, width)...))
	for i, want := range given(x, y, 1<<width) {
		if got := valueIn(run, words[i]); got != want {
			t.Fatalf("width %d: operation %d of %d and %d gives %d, want %d", width, i, x, y, got, want)
		}
	}
}

// TestOperations: operations give what they must, whether their operands are known
// or go in.
func TestOperations(t *testing.T) {
	r := rand.New(rand.NewSource(63))
	for width := 1; width <= 8; width++ {
		for _, p := range operands(r, width) {
			x, y := p[0], p[1]
			c := New()
			first, second := c.Inputs(width), c.Inputs(width)
			knownX, knownY := Constant(width, x), Constant(width, y)
			checkOperations(t, c, first, second, x, y)
			checkOperations(t, c, knownX, second, x, y)
			checkOperations(t, c, first, knownY, x, y)
			checkOperations(t, c, knownX, knownY, x, y)
			checkOperations(t, c, first, first, x, x)
			checkForm(t, c)
		}
	}
}

// TestPick: the word with a number is picked out of a row, of whatever length.
func TestPick(t *testing.T) {
	const width = 4
	for length := 1; length <= 16; length++ {
		c := New()
		at := c.Inputs(width)
		var row [][]int
		for i := range length {
			row = append(row, Constant(8, 100+7*i))
		}
		word := c.Pick(row, at)
		for i := range length {
			if got := valueIn(c.run(bitsOf(i, width)), word); got != 100+7*i {
				t.Errorf("%d words: the one with the number %d is %d", length, i, got)
			}
		}
		short := c.Pick(row, at[:1])
		for i := range min(length, 2) {
			if got := valueIn(c.run(bitsOf(i, width)), short); got != 100+7*i {
				t.Errorf("%d words: the one with the number %d is %d, by one bit", length, i, got)
			}
		}
	}
	c := New()
	if got := c.Pick(nil, c.Inputs(2)); len(got) != 2 {
		t.Errorf("of no words %v is picked", got)
	}
}

// A sum is a word, and how many times each of three words goes into it, and 1.
type sum struct {
	word  []int
	times [4]int
}

// sumOf makes a sum of two others.
func (c *Circuit) sumOf(kind int, x, y sum) sum {
	width := len(x.word)
	s := x
	switch kind {
	case 0:
		s.word = c.Sum(x.word, y.word)
	case 1:
		s.word = c.Difference(x.word, y.word)
	case 2:
		s.word = c.Up(x.word, Constant(width, 1))
	}
	for k := range s.times {
		s.times[k] += []int{y.times[k], -y.times[k], x.times[k]}[kind]
		s.times[k] &= 1<<width - 1
	}
	return s
}

// TestSums: sums of the same words are the same word, in whichever order they are
// built; and they give what they must.
func TestSums(t *testing.T) {
	r := rand.New(rand.NewSource(64))
	same := 0
	for range 300 {
		width := 1 + r.Intn(8)
		c := New()
		sums := []sum{
			{c.Inputs(width), [4]int{0: 1}},
			{c.Inputs(width), [4]int{1: 1}},
			{c.Inputs(width), [4]int{2: 1}},
			{Constant(width, 1), [4]int{3: 1}},
		}
		for range 40 {
			s := c.sumOf(r.Intn(3), sums[r.Intn(len(sums))], sums[r.Intn(len(sums))])
			run := c.run(bitsOf(r.Intn(1<<(3*width)), 3*width))
			want := s.times[3]
			for k := range 3 {
				want += s.times[k] * valueIn(run, sums[k].word)
			}
			if got := valueIn(run, s.word); got != want&(1<<width-1) {
				t.Fatalf("width %d: %v gives %d, want %d", width, s.times, got, want)
			}
			for _, other := range sums {
				if other.times != s.times {
					continue
				}
				same++
				if !slices.Equal(other.word, s.word) {
					t.Fatalf("width %d: %v is the words %v and %v", width, s.times, other.word, s.word)
				}
			}
			sums = append(sums, s)
		}
	}
	if same < 1000 {
		t.Errorf("only %d sums came twice", same)
	}
}
