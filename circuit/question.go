package circuit

import "leak/solver"

// Ask tells whether there are values of the bits that go in for which an edge
// holds. Most questions are short work for the solver. Some are not, while there
// are not too many values to try them all: so the solver has as long as that takes.
func (c *Circuit) Ask(e int) bool {
	c.values = nil
	if e/2 == 0 {
		return e == True
	}
	c.nameAll(e / 2)
	t := c.newTrial(e)
	answer := c.search(e, t.conflicts())
	if answer == solver.GivenUp {
		return c.tryAll(t)
	}
	return answer == solver.Found
}

// search lets the solver look for an answer, and notes the values that it finds.
func (c *Circuit) search(e, conflicts int) int {
	answer := c.solver.SolveIf(c.numberOf(e), conflicts)
	if answer != solver.Found {
		return answer
	}
	c.values = make([]bool, len(c.gates))
	for i := 0; i < len(c.gates); i++ {
		if c.names[i] != 0 {
			c.values[i] = c.solver.Holds(c.names[i])
		}
	}
	return answer
}

// tryAll tries all values, and notes those that it finds. If there are none, the
// solver may know it for other questions.
func (c *Circuit) tryAll(t *trial) bool {
	if !t.find() {
		c.solver.Add([]int{-c.numberOf(t.edge)})
		return false
	}
	c.values = t.values(len(c.gates))
	return true
}

// Value tells the value of a word of bits that go in, by the values that the last
// question was answered with. A bit that no question was about is 0.
func (c *Circuit) Value(word []int) int {
	value := 0
	for i := len(word) - 1; i >= 0; i-- {
		value *= 2
		number := word[i] / 2
		if number < len(c.values) && c.values[number] {
			value++
		}
	}
	return value
}
