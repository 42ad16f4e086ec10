package circuit

// mostOpen is how many edges there may be, at most, while a sum is taken apart.
const mostOpen = 64

// Xor tells the edge that holds if just one of two edges holds.
func (c *Circuit) Xor(x, y int) int {
	contrary := (x ^ y) & 1
	x -= x & 1
	y -= y & 1
	if x > y {
		x, y = y, x
	}
	if x == False {
		return y ^ contrary
	}
	leaves := c.leaves(x, y)
	switch len(leaves) {
	case 0:
		return contrary
	case 1:
		return leaves[0] ^ contrary
	case 2:
		return c.find(gate{kind: xor, a: leaves[1], b: leaves[0]}) ^ contrary
	}
	return c.find(gate{kind: xor, a: x, b: y}) ^ contrary
}

// leaves takes the sum of two edges apart into the bits that it is the sum of, the
// greatest edge first. Whatever comes twice leaves it: so sums of the same bits
// are found to be the same, in whichever order they were built. It stops at three,
// as a gate that stands for no more than two is all that is looked for.
func (c *Circuit) leaves(x, y int) []int {
	var sum []int
	var leaves []int
	sum = toggle(sum, x)
	sum = toggle(sum, y)
	for len(sum) > 0 && len(sum) <= mostOpen && len(leaves) < 3 {
		last := len(sum) - 1
		e := sum[last]
		sum = sum[:last]
		g := c.gates[e/2]
		if g.kind != xor {
			leaves = append(leaves, e)
			continue
		}
		sum = toggle(sum, g.a)
		sum = toggle(sum, g.b)
	}
	for i := len(sum) - 1; i >= 0; i-- {
		leaves = append(leaves, sum[i])
	}
	return leaves
}

// toggle puts an edge into a rising row of edges or, if it is there, takes it out.
func toggle(row []int, e int) []int {
	at := len(row)
	for at > 0 && row[at-1] > e {
		at--
	}
	if at > 0 && row[at-1] == e {
		copy(row[at-1:], row[at:])
		return row[:len(row)-1]
	}
	row = append(row, 0)
	copy(row[at+1:], row[at:len(row)-1])
	row[at] = e
	return row
}
