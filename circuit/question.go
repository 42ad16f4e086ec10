package circuit

import "leak/solver"

// What Ask answers.
const (
	GivenUp = solver.GivenUp
	Yes     = solver.Found
	No      = solver.None
)

// Ask tells whether there are values of the bits that go in for which an edge
// holds. Most questions are short work for the solver. Some are not, while there
// are not too many values to try them all: so the solver has as long as that takes.
// If there are too many, it gives up behind some conflicts or, if these are 0,
// never.
func (c *Circuit) Ask(e, conflicts int) int {
	c.values = nil
	if e == False {
		return No
	}
	if e == True {
		return Yes
	}
	c.nameAll(e / 2)
	t := c.newTrial(e)
	most := t.conflicts()
	if most == 0 {
		return c.search(e, conflicts)
	}
	answer := c.search(e, most)
	if answer == GivenUp {
		return c.tryAll(t)
	}
	return answer
}

// search lets the solver look for an answer, and notes the values that it finds.
func (c *Circuit) search(e, conflicts int) int {
	answer := c.solver.SolveIf(c.numberOf(e), conflicts)
	if answer != Yes {
		return answer
	}
	c.values = make([]bool, len(c.gates))
	for i := 0; i < len(c.gates); i++ {
		if c.names[i] != 0 {
			c.values[i] = c.solver.Holds(c.names[i])
		}
	}
	return answer
}

// tryAll tries all values, and notes those that it finds. If there are none, the
// solver may know it for other questions.
func (c *Circuit) tryAll(t *trial) int {
	if !t.find() {
		c.solver.Add([]int{-c.numberOf(t.edge)})
		return No
	}
	c.values = t.values(len(c.gates))
	return Yes
}

// Value tells the value of a word of bits that go in or are known, by the values
// that the last question was answered with. A bit that no question was about is 0.
func (c *Circuit) Value(word []int) int {
	value := 0
	for i := len(word) - 1; i >= 0; i-- {
		value *= 2
		number := word[i] / 2
		if word[i] == True || number < len(c.values) && c.values[number] {
			value++
		}
	}
	return value
}
