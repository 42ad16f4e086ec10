package circuit

// needs tells of each gate up to one of them whether that one hangs on it. The
// edges of a gate lead to gates with lower numbers.
func (c *Circuit) needs(number int) []bool {
	needed := make([]bool, number+1)
	needed[number] = true
	for i := number; i > 0; i-- {
		if needed[i] {
			g := c.gates[i]
			needed[g.a/2] = true
			needed[g.b/2] = true
			needed[g.c/2] = true
		}
	}
	return needed
}

// InputsOf tells the bits that go in on which an edge hangs, in their order.
func (c *Circuit) InputsOf(e int) []int {
	var inputs []int
	needed := c.needs(e / 2)
	for i := 1; i < len(needed); i++ {
		if needed[i] && c.gates[i].kind == input {
			inputs = append(inputs, 2*i)
		}
	}
	return inputs
}

// nameAll gives a name to a gate, and to all those that it hangs on, and says in
// clauses what they do.
func (c *Circuit) nameAll(number int) {
	needed := c.needs(number)
	for i := 1; i <= number; i++ {
		if needed[i] && c.names[i] == 0 {
			c.names[i] = c.solver.NewName()
			c.explain(i)
		}
	}
}

// numberOf tells the number of an edge in clauses: the name of its gate, or the
// contrary of that.
func (c *Circuit) numberOf(e int) int {
	name := c.names[e/2]
	if e&1 == 1 {
		return -name
	}
	return name
}

// explain says in clauses what a gate does.
func (c *Circuit) explain(number int) {
	g := c.gates[number]
	out := c.names[number]
	x := c.numberOf(g.a)
	y := c.numberOf(g.b)
	z := c.numberOf(g.c)
	switch g.kind {
	case and:
		c.say(x, -out, -out)
		c.say(y, -out, -out)
		c.say(-x, -y, out)
	case xor:
		c.say(x, y, -out)
		c.say(-x, -y, -out)
		c.say(x, -y, out)
		c.say(-x, y, out)
	case choice:
		c.say(-x, -y, out)
		c.say(-x, y, -out)
		c.say(x, -z, out)
		c.say(x, z, -out)
		c.say(-y, -z, out) // these two follow from the others, but not at once
		c.say(y, z, -out)
	}
}

func (c *Circuit) say(x, y, z int) {
	c.solver.Add([]int{x, y, z})
}
