package circuit

// mostOpen is how many edges there may be, at most, while a sum is taken apart.
const mostOpen = 64

// Xor tells the edge that holds if just one of two edges holds.
func (c *Circuit) Xor(x, y int) int {
	contrary := (x ^ y) & 1
	x -= x & 1
	y -= y & 1
	if x > y {
		x, y = y, x
	}
	if x == False {
		return y ^ contrary
	}
	leaves := c.leaves(x, y)
	switch len(leaves) {
	case 0:
		return contrary
	case 1:
		return leaves[0] ^ contrary
	case 2:
		return c.find(gate{kind: xor, a: leaves[1], b: leaves[0]}) ^ contrary
	}
	return c.find(gate{kind: xor, a: x, b: y}) ^ contrary
}

// leaves takes the sum of two edges apart into the bits that it is the sum of, the
// greatest edge first. Whatever comes twice leaves it: so sums of the same bits
// are found to be the same, in whichever order they were built. It stops at three,
// as a gate that stands for no more than two is all that is looked for.
func (c *Circuit) leaves(x, y int) []int {
	var leaves []int
	var open pile
	open.toggle(x)
	open.toggle(y)
	for len(open.edges) > 0 && len(open.edges) <= mostOpen && len(leaves) < 3 {
		e := open.takeGreatest()
		g := c.gates[e/2]
		if g.kind != xor {
			leaves = append(leaves, e)
			continue
		}
		open.toggle(g.a)
		open.toggle(g.b)
	}
	for len(open.edges) > 0 {
		e := open.takeGreatest()
		leaves = append(leaves, e)
	}
	return leaves
}

// A pile is edges that are still to be taken apart, in rising order. Each falls
// apart into lower ones; so if the greatest is taken first, each comes once.
type pile struct {
	edges []int
}

// toggle puts an edge in or, if it is there, takes it out.
func (p *pile) toggle(e int) {
	at := len(p.edges)
	for at > 0 && p.edges[at-1] > e {
		at--
	}
	if at > 0 && p.edges[at-1] == e {
		copy(p.edges[at-1:], p.edges[at:])
		p.edges = p.edges[:len(p.edges)-1]
		return
	}
	p.edges = append(p.edges, 0)
	copy(p.edges[at+1:], p.edges[at:])
	p.edges[at] = e
}

func (p *pile) takeGreatest() int {
	last := len(p.edges) - 1
	e := p.edges[last]
	p.edges = p.edges[:last]
	return e
}
