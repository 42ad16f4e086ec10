package circuit

// Sum tells x + y, without what is carried out of the word.
func (c *Circuit) Sum(x, y []int) []int {
	word := make([]int, len(x))
	carry := False
	for i := 0; i < len(x); i++ {
		differ := c.Xor(x[i], y[i])
		word[i] = c.Xor(differ, carry)
		carry = c.Choice(differ, carry, x[i])
	}
	return c.sumUp(word, x, y, 1)
}

// Difference tells x - y, without what is borrowed from above the word.
func (c *Circuit) Difference(x, y []int) []int {
	word := c.subtract(x, y)
	return c.sumUp(word[:len(x)], x, y, -1)
}

// sumUp tells the word that x and, some times, y make. The one that is handed in
// does, but a word that was built before may do so too.
func (c *Circuit) sumUp(word, x, y []int, times int) []int {
	f := c.formOf(x)
	g := c.formOf(y)
	return c.unify(combine(word, f, g, times))
}

// IsLess tells whether x is below y.
func (c *Circuit) IsLess(x, y []int) int {
	word := c.subtract(x, y)
	return word[len(x)]
}

// subtract tells x - y and, as one bit more, whether something is borrowed from
// above the word.
func (c *Circuit) subtract(x, y []int) []int {
	word := make([]int, len(x)+1)
	borrow := False
	for i := 0; i < len(x); i++ {
		differ := c.Xor(x[i], y[i])
		word[i] = c.Xor(differ, borrow)
		borrow = c.Choice(differ, y[i], borrow)
	}
	word[len(x)] = borrow
	return word
}

// Divide tells how many times y goes into x and what is left over, if y is not 0.
// It takes the bits of x from the greatest on, as one does on paper. What is left
// over, with the next bit, is never more than what was taken, so it fits.
func (c *Circuit) Divide(x, y []int) ([]int, []int) {
	quotient := make([]int, len(x))
	rest := Constant(len(x), 0)
	for i := len(x) - 1; i >= 0; i-- {
		rest = shiftIn(x[i], rest)
		difference := c.subtract(rest, y)
		below := difference[len(x)]
		quotient[i] = below ^ 1
		rest = c.ChoiceOfWords(below, rest, difference[:len(x)])
	}
	return quotient, rest
}

// shiftIn moves a word up by one bit, and a bit in below. The greatest bit is lost.
func shiftIn(bit int, word []int) []int {
	moved := make([]int, len(word))
	for i := 1; i < len(word); i++ {
		moved[i] = word[i-1]
	}
	moved[0] = bit
	return moved
}

// Up tells x times 2 to the power y, without what does not fit into the word.
func (c *Circuit) Up(x, y []int) []int {
	word := x
	distance := 1
	for i := 0; i < len(y); i++ {
		moved := Constant(len(x), 0)
		for j := distance; j < len(x); j++ {
			moved[j] = word[j-distance]
		}
		word = c.ChoiceOfWords(y[i], moved, word)
		distance = further(distance, len(x))
	}
	if !isConstant(y) {
		return word
	}
	return c.sumUp(word, Constant(len(x), 0), x, power(valueOf(y), len(x)))
}

// power tells 2 to the power of a number or, if that is less, of a word's width: no
// bit of the word is left by either.
func power(number, width int) int {
	times := 1
	for i := 0; i < number && i < width; i++ {
		times *= 2
	}
	return times
}

// Down tells x divided by 2 to the power y, cut to a whole number.
func (c *Circuit) Down(x, y []int) []int {
	distance := 1
	for i := 0; i < len(y); i++ {
		moved := Constant(len(x), 0)
		for j := distance; j < len(x); j++ {
			moved[j-distance] = x[j]
		}
		x = c.ChoiceOfWords(y[i], moved, x)
		distance = further(distance, len(x))
	}
	return x
}

// further doubles a distance, unless it leads out of the word already.
func further(distance, width int) int {
	if distance >= width {
		return distance
	}
	return 2 * distance
}
