package circuit

import "leak/solver"

const (
	samples    = 4   // numbers with 64 places each
	mostDoubts = 100 // edges that are held against others in vain, at most
	usualHaste = 1000
	moreHaste  = 30
	firstSeed  = 0x9e3779b97f4a7c15
)

// A sample is what a gate gives for some values of the bits that go in, one in each
// place. Gates that do not do the same rarely have the same sample.
type sample [samples]uint64

func (c *Circuit) sampleOf(g gate) sample {
	var s sample
	for i := 0; i < samples; i++ {
		switch g.kind {
		case nought:
			s[i] = 0
		case input:
			s[i] = c.scatter()
		default:
			x := c.sampleAt(g.a, i)
			y := c.sampleAt(g.b, i)
			z := c.sampleAt(g.c, i)
			s[i] = give(g.kind, x, y, z)
		}
	}
	return s
}

func (c *Circuit) sampleAt(e, i int) uint64 {
	return turned(c.samples[e/2][i], e)
}

// scatter tells the next of a fixed row of numbers in which there is no order.
func (c *Circuit) scatter() uint64 {
	c.seed ^= c.seed >> 12
	c.seed ^= c.seed << 25
	c.seed ^= c.seed >> 27
	return c.seed * 0x2545f4914f6cdd1d
}

// Merge tells a word that is the same as another one, by edges that were merged
// before wherever there are some that do the same. So what comes to be the same by
// different ways is built on as the same: from then on no question is about it.
func (c *Circuit) Merge(word []int) []int {
	merged := make([]int, len(word))
	for i := 0; i < len(word); i++ {
		merged[i] = c.merge(word[i])
	}
	for i := 0; i < len(c.forms); i++ {
		if isSameWord(c.forms[i].word, word) {
			c.forms[i].word = merged
		}
	}
	return merged
}

// merge does so with an edge. Of each edge and its contrary it keeps the one that
// gives 0 in the first place of its sample, so that both are found.
func (c *Circuit) merge(e int) int {
	first := int(c.sampleAt(e, 0) & 1)
	e ^= first
	for i := 0; i < len(c.merged); i++ {
		if c.isSame(e, c.merged[i]) {
			return c.merged[i] ^ first
		}
	}
	c.merged = append(c.merged, e)
	return e ^ first
}

// Hurry lets it look for edges that do the same with more haste.
func (c *Circuit) Hurry() {
	c.haste = moreHaste
}

// isSame tells whether two edges are known to do the same. Where their samples do,
// it is worth a short search.
func (c *Circuit) isSame(x, y int) bool {
	for i := 0; i < samples; i++ {
		if c.sampleAt(x, i) != c.sampleAt(y, i) {
			return false
		}
	}
	differ := c.Xor(x, y)
	if differ == False {
		return true
	}
	if c.doubts >= mostDoubts {
		return false
	}
	c.nameAll(differ / 2)
	if c.solver.SolveIf(c.numberOf(differ), c.haste) == solver.None {
		return true
	}
	c.doubts++
	return false
}
