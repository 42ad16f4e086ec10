// Package circuit builds circuits of gates over bits and words, and finds values
// of the bits that go in for which a bit inside holds.
package circuit

import "leak/solver"

// A bit inside is told by an edge: twice the number of a gate, and one more for
// the contrary of what the gate gives. So e^1 is the contrary of e. The gate 0
// gives 0.
const (
	False = 0
	True  = 1
)

// Circuit is a circuit. No two of its gates are of one kind and have the same
// edges; so what is built twice, in one way, is one edge.
type Circuit struct {
	gates   []gate
	rows    []int    // the last gate of each row, or none: gates with one hash lie in one row
	before  []int    // of each gate, the one before it in its row, or none
	samples []sample // of each gate
	seed    uint64   // what the samples of bits that go in come from
	merged  []int    // edges, no two of which are known to do the same
	doubts  int      // how many edges were held against them in vain
	forms   []form   // of words
	names   []int    // of each gate, its name among the solver's, or 0
	solver  *solver.Solver
	haste   int    // conflicts until the solver gives up on whether edges do the same
	values  []bool // of each gate, by the values that the last question was answered with
}

const (
	none    = -1
	fewRows = 1 << 10 // a power of 2, as the number of rows always is
	mix     = 31
)

// New makes a circuit without inputs.
func New() *Circuit {
	c := &Circuit{solver: solver.New(0), seed: firstSeed, haste: usualHaste}
	c.layRows(fewRows)
	c.add(gate{kind: nought})
	c.merge(False)
	return c
}

// Input adds a bit that goes in.
func (c *Circuit) Input() int {
	e := c.add(gate{kind: input})
	c.merge(e)
	return e
}

func (c *Circuit) add(g gate) int {
	number := len(c.gates)
	s := c.sampleOf(g)
	c.gates = append(c.gates, g)
	c.before = append(c.before, none)
	c.samples = append(c.samples, s)
	c.names = append(c.names, 0)
	return 2 * number
}

// find tells the edge of a gate, which is built if it is not there.
func (c *Circuit) find(g gate) int {
	row := c.rowOf(g)
	for at := c.rows[row]; at != none; at = c.before[at] {
		if c.gates[at] == g {
			return 2 * at
		}
	}
	e := c.add(g)
	c.layInRow(e/2, row)
	if len(c.gates) > len(c.rows) {
		c.layRows(2 * len(c.rows))
	}
	return e
}

func (c *Circuit) rowOf(g gate) int {
	hash := ((g.a*mix+g.b)*mix+g.c)*mix + g.kind
	return hash & (len(c.rows) - 1)
}

func (c *Circuit) layInRow(number, row int) {
	c.before[number] = c.rows[row]
	c.rows[row] = number
}

// layRows lays all gates that can be found into new rows.
func (c *Circuit) layRows(rows int) {
	c.rows = make([]int, rows)
	for i := 0; i < rows; i++ {
		c.rows[i] = none
	}
	for i := 0; i < len(c.gates); i++ {
		if c.gates[i].kind != nought && c.gates[i].kind != input {
			c.layInRow(i, c.rowOf(c.gates[i]))
		}
	}
}
