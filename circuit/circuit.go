// Package circuit builds circuits of gates over bits and words, and finds values
// of the bits that go in for which a bit inside holds.
package circuit

import "leak/solver"

// A bit inside is told by an edge: twice the number of a gate, and one more for
// the contrary of what the gate gives. So e^1 is the contrary of e. The gate 0
// gives 0.
const (
	False = 0
	True  = 1
)

// The kinds of gates. What is not needed of a gate's edges is 0.
const (
	input  = 0 // a bit that goes in; the gate 0 is of this kind too
	and    = 1 // a and b
	xor    = 2 // a or b, but not both
	choice = 3 // b, if a holds, else c
)

type gate struct {
	kind int
	a    int
	b    int
	c    int
}

// Circuit is a circuit. No two of its gates are of one kind and have the same
// edges; so what is built twice, in one way, is one edge.
type Circuit struct {
	gates  []gate
	rows   []int // the last gate of each row: gates of one hash lie in one row
	before []int // of each gate, the one before it in its row, or none
	forms  []form
	names  []int // of each gate, its name among the solver's, or 0
	solver *solver.Solver
	values []bool // of each gate, by the values that the last question was answered with
}

const (
	none    = -1
	fewRows = 1 << 10 // a power of 2, as the number of rows always is
	mix     = 31
)

// New makes a circuit without inputs.
func New() *Circuit {
	c := &Circuit{solver: solver.New(0)}
	c.layRows(fewRows)
	c.add(gate{kind: input})
	return c
}

// Input adds a bit that goes in.
func (c *Circuit) Input() int {
	return c.add(gate{kind: input})
}

func (c *Circuit) add(g gate) int {
	number := len(c.gates)
	c.gates = append(c.gates, g)
	c.before = append(c.before, none)
	c.names = append(c.names, 0)
	return 2 * number
}

// find tells the edge of a gate, which is built if it is not there.
func (c *Circuit) find(g gate) int {
	row := c.rowOf(g)
	for at := c.rows[row]; at != none; at = c.before[at] {
		if c.gates[at] == g {
			return 2 * at
		}
	}
	e := c.add(g)
	c.layInRow(e/2, row)
	if len(c.gates) > len(c.rows) {
		c.layRows(2 * len(c.rows))
	}
	return e
}

func (c *Circuit) rowOf(g gate) int {
	hash := ((g.a*mix+g.b)*mix+g.c)*mix + g.kind
	return hash & (len(c.rows) - 1)
}

func (c *Circuit) layInRow(number, row int) {
	c.before[number] = c.rows[row]
	c.rows[row] = number
}

// layRows lays all gates into new rows.
func (c *Circuit) layRows(rows int) {
	c.rows = make([]int, rows)
	for i := 0; i < rows; i++ {
		c.rows[i] = none
	}
	for i := 0; i < len(c.gates); i++ {
		if c.gates[i].kind != input {
			c.layInRow(i, c.rowOf(c.gates[i]))
		}
	}
}
