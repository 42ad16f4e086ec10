package circuit

import "leak/solver"

// Ask tells whether there are values of the bits that go in for which an edge
// holds. Most questions are short work for the solver. For the others there may
// be few enough values to try them all; if not, the solver must go on.
func (c *Circuit) Ask(e int) bool {
	c.values = nil
	if e/2 == 0 {
		return e == True
	}
	c.nameAll(e / 2)
	answer := c.search(e, c.patience)
	if answer == solver.GivenUp {
		answer = c.tryAll(e)
	}
	if answer == solver.GivenUp {
		answer = c.search(e, 0)
	}
	return answer == solver.Found
}

// search lets the solver look for an answer, and notes the values that it finds.
func (c *Circuit) search(e, conflicts int) int {
	answer := c.solver.SolveIf(c.numberOf(e), conflicts)
	if answer != solver.Found {
		return answer
	}
	c.values = make([]bool, len(c.gates))
	for i := 0; i < len(c.gates); i++ {
		if c.names[i] != 0 {
			c.values[i] = c.solver.Holds(c.names[i])
		}
	}
	return answer
}

// tryAll tries all values, if that is not too much work, and notes those that it
// finds. What it finds not to be is of use to the solver too.
func (c *Circuit) tryAll(e int) int {
	t := c.newTrial(e)
	if t.rounds() == 0 {
		return solver.GivenUp
	}
	if !t.find() {
		c.solver.Add([]int{-c.numberOf(e)})
		return solver.None
	}
	c.values = t.values(len(c.gates))
	return solver.Found
}

// Value tells the value of a word of bits that go in, by the values that the last
// question was answered with. A bit that no question was about is 0.
func (c *Circuit) Value(word []int) int {
	value := 0
	for i := len(word) - 1; i >= 0; i-- {
		value *= 2
		number := word[i] / 2
		if number < len(c.values) && c.values[number] {
			value++
		}
	}
	return value
}
