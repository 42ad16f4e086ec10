package circuit

// Choice tells the edge that is yes, if a test holds, else no.
func (c *Circuit) Choice(test, yes, no int) int {
	if test&1 == 1 {
		test ^= 1
		yes, no = no, yes
	}
	if test == False || yes == no {
		return no
	}
	yes = c.under(test, yes)
	no = c.under(test^1, no)
	switch {
	case yes == no:
		return no
	case yes == no^1:
		return c.Xor(test, no)
	case yes == False:
		return c.And(test^1, no)
	case no == False:
		return c.And(test, yes)
	case yes == True:
		return c.Or(test, no)
	case no == True:
		return c.Or(test^1, yes)
	}
	contrary := yes & 1
	return c.find(gate{kind: choice, a: test, b: yes ^ contrary, c: no ^ contrary}) ^ contrary
}

// under tells what an edge may be put down as where a test holds.
func (c *Circuit) under(test, e int) int {
	switch {
	case e == test:
		return True
	case e == test^1:
		return False
	}
	g := c.gates[e/2]
	if g.kind != choice || g.a/2 != test/2 {
		return e
	}
	if g.a == test {
		return g.b ^ e&1
	}
	return g.c ^ e&1
}
