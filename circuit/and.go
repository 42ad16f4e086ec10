package circuit

// And tells the edge that holds if two edges hold. It is built in as plain a way
// as two gates one behind the other let it: the fewer gates, the easier a
// question.
func (c *Circuit) And(x, y int) int {
	if x > y {
		x, y = y, x
	}
	switch {
	case x == False || x == y^1:
		return False
	case x == True || x == y:
		return y
	case c.excludes(x, y):
		return False
	case c.implies(x, y):
		return x
	case c.implies(y, x):
		return y
	}
	return c.andOfOpen(x, y)
}

// andOfOpen goes on where neither edge decides the other; x is the lower one. If y
// is the contrary of "x and z", then "x and y" is "x and not z".
func (c *Circuit) andOfOpen(x, y int) int {
	z := c.otherThan(y^1, x)
	if z != none {
		return c.And(x, z^1)
	}
	z = c.common(x^1, y^1)
	if z != none {
		return z ^ 1
	}
	return c.find(gate{kind: and, a: x, b: y})
}

// Or tells the edge that holds if one of two edges holds, or both.
func (c *Circuit) Or(x, y int) int {
	return c.And(x^1, y^1) ^ 1
}

// isAnd tells whether an edge is that of an and gate, not its contrary.
func (c *Circuit) isAnd(e int) bool {
	return e&1 == 0 && c.gates[e/2].kind == and
}

// hasPart tells whether an edge is "part and something", or part itself.
func (c *Circuit) hasPart(e, part int) bool {
	if e == part {
		return true
	}
	return c.isAnd(e) && (c.gates[e/2].a == part || c.gates[e/2].b == part)
}

// otherThan tells what z is, if e is "part and z", else none.
func (c *Circuit) otherThan(e, part int) int {
	if !c.isAnd(e) {
		return none
	}
	g := c.gates[e/2]
	if g.a == part {
		return g.b
	}
	if g.b == part {
		return g.a
	}
	return none
}

// excludes tells whether it is plain that x and y do not both hold: each of them
// is made of a part and others, and the parts are contrary.
func (c *Circuit) excludes(x, y int) bool {
	if c.hasPart(x, y^1) || c.hasPart(y, x^1) {
		return true
	}
	if !c.isAnd(x) {
		return false
	}
	g := c.gates[x/2]
	return c.hasPart(y, g.a^1) || c.hasPart(y, g.b^1)
}

// implies tells whether it is plain that y holds where x holds: y is a part of x,
// or y is the contrary of what has a part that is contrary to one of x.
func (c *Circuit) implies(x, y int) bool {
	return c.hasPart(x, y) || c.excludes(x, y^1)
}

// common tells what z is, if x and y are "z and v" and "z and not v" for some v,
// else none.
func (c *Circuit) common(x, y int) int {
	if !c.isAnd(x) {
		return none
	}
	g := c.gates[x/2]
	if c.otherThan(y, g.a) == g.b^1 {
		return g.a
	}
	if c.otherThan(y, g.b) == g.a^1 {
		return g.b
	}
	return none
}
