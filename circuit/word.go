package circuit

// A word is edges, that of the least bit first. Two words that are put together
// are of one length.

// Constant tells the word of a value.
func Constant(width, value int) []int {
	word := make([]int, width)
	for i := 0; i < width; i++ {
		word[i] = value % 2
		value /= 2
	}
	return word
}

// Inputs adds a word of bits that go in.
func (c *Circuit) Inputs(width int) []int {
	word := make([]int, width)
	for i := 0; i < width; i++ {
		word[i] = c.Input()
	}
	return word
}

// AndWords tells x and y, bit by bit.
func (c *Circuit) AndWords(x, y []int) []int {
	word := make([]int, len(x))
	for i := 0; i < len(x); i++ {
		word[i] = c.And(x[i], y[i])
	}
	return word
}

// OrWords tells x or y, bit by bit.
func (c *Circuit) OrWords(x, y []int) []int {
	word := make([]int, len(x))
	for i := 0; i < len(x); i++ {
		word[i] = c.Or(x[i], y[i])
	}
	return word
}

// XorWords tells either x or y, bit by bit.
func (c *Circuit) XorWords(x, y []int) []int {
	word := make([]int, len(x))
	for i := 0; i < len(x); i++ {
		word[i] = c.Xor(x[i], y[i])
	}
	return word
}

// ChoiceOfWords tells the word yes, if a test holds, else the word no.
func (c *Circuit) ChoiceOfWords(test int, yes, no []int) []int {
	word := make([]int, len(yes))
	for i := 0; i < len(yes); i++ {
		word[i] = c.Choice(test, yes[i], no[i])
	}
	return word
}

// IsAny tells whether a bit of a word holds.
func (c *Circuit) IsAny(word []int) int {
	held := False
	for i := 0; i < len(word); i++ {
		held = c.Or(held, word[i])
	}
	return held
}

// Differ tells whether x and y are not the same.
func (c *Circuit) Differ(x, y []int) int {
	return c.IsAny(c.XorWords(x, y))
}

// Lengths tells of each bit of a word whether that bit holds or one above it: so
// many bits as that the word has.
func (c *Circuit) Lengths(word []int) []int {
	lengths := make([]int, len(word))
	held := False
	for i := len(word) - 1; i >= 0; i-- {
		held = c.Or(held, word[i])
		lengths[i] = held
	}
	return lengths
}
