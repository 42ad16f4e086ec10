package circuit

// Pick tells the word with the number at, of a row of words, if there is one.
func (c *Circuit) Pick(row [][]int, at []int) []int {
	if len(row) == 0 {
		return at
	}
	for i := 0; i < len(at) && len(row) > 1; i++ {
		row = c.halve(row, at[i])
	}
	return row[0]
}

// halve keeps of each two words of a row the second, if a bit holds, else the
// first.
func (c *Circuit) halve(row [][]int, bit int) [][]int {
	var half [][]int
	for i := 0; i < len(row); i += 2 {
		word := row[i]
		if i+1 < len(row) {
			word = c.ChoiceOfWords(bit, row[i+1], word)
		}
		half = append(half, word)
	}
	return half
}

// Is tells whether a word is a value.
func (c *Circuit) Is(word []int, value int) int {
	same := True
	for i := 0; i < len(word); i++ {
		bit := word[i]
		if value%2 == 0 {
			bit ^= 1
		}
		same = c.And(same, bit)
		value /= 2
	}
	if value > 0 {
		return False
	}
	return same
}

// IsBelow tells whether a word is below a number, which may be above all values.
func (c *Circuit) IsBelow(word []int, number int) int {
	below := False
	for i := 0; i < len(word); i++ {
		if number%2 == 1 {
			below = c.Or(below, word[i]^1)
		} else {
			below = c.And(below, word[i]^1)
		}
		number /= 2
	}
	if number > 0 {
		return True
	}
	return below
}
