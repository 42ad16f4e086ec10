package circuit

const (
	lanes         = 6       // bits that go in whose values are all tried at once
	heap          = 64      // gates, as a measure of work
	mostHeaps     = 1 << 26 // heaps that are done, at most, to try all values
	perConflict   = 256     // heaps that take about as long as the solver takes for a conflict
	someConflicts = 100     // conflicts that the solver may always have
)

// lane tells the values of these bits, side by side: in each of 64 places others.
var lane = [lanes]uint64{
	0xaaaaaaaaaaaaaaaa,
	0xcccccccccccccccc,
	0xf0f0f0f0f0f0f0f0,
	0xff00ff00ff00ff00,
	0xffff0000ffff0000,
	0xffffffff00000000,
}

// A trial tries values. It has the gates that an edge hangs on, in their order.
type trial struct {
	edge    int      // in the circuit
	goal    int      // the same edge in the trial
	numbers []int    // of each gate, its number in the circuit
	gates   []gate   // their edges lead to gates of the trial
	given   []uint64 // what each gate gives, in 64 places
	inputs  []int    // the gates that are bits that go in
}

func (c *Circuit) newTrial(e int) *trial {
	t := &trial{edge: e}
	needed := c.needs(e / 2)
	places := make([]int, len(needed))
	for i := 0; i < len(needed); i++ {
		if i > 0 && !needed[i] {
			continue
		}
		g := c.gates[i]
		g.a = 2*places[g.a/2] + g.a&1
		g.b = 2*places[g.b/2] + g.b&1
		g.c = 2*places[g.c/2] + g.c&1
		places[i] = len(t.gates)
		if g.kind == input {
			t.inputs = append(t.inputs, len(t.gates))
		}
		t.numbers = append(t.numbers, i)
		t.gates = append(t.gates, g)
		t.given = append(t.given, 0)
	}
	t.goal = 2*places[e/2] + e&1
	return t
}

// conflicts tells to how many conflicts the solver may come while all values are
// tried, or 0 if that takes too long.
func (t *trial) conflicts() int {
	heaps := 1 + len(t.gates)/heap
	for i := lanes; i < len(t.inputs); i++ {
		heaps *= 2
		if heaps > mostHeaps {
			return 0
		}
	}
	return someConflicts + heaps/perConflict
}

// find tries values until the edge holds, and tells whether it does at last.
func (t *trial) find() bool {
	rounds := 1
	for i := lanes; i < len(t.inputs); i++ {
		rounds *= 2
	}
	for round := 0; round < rounds; round++ {
		t.choose(round)
		t.doGates()
		if t.bits(t.goal) != 0 {
			return true
		}
	}
	return false
}

// choose lets the bits that go in be those of one round: its number, bit by bit,
// is what all but the first of them are.
func (t *trial) choose(round int) {
	for i := 0; i < len(t.inputs); i++ {
		at := t.inputs[i]
		if i < lanes {
			t.given[at] = lane[i]
			continue
		}
		t.given[at] = 0
		if round%2 == 1 {
			t.given[at] = ^t.given[at]
		}
		round /= 2
	}
}

func (t *trial) doGates() {
	for i := 0; i < len(t.gates); i++ {
		g := &t.gates[i]
		if g.kind == input {
			continue
		}
		x := t.bits(g.a)
		y := t.bits(g.b)
		z := t.bits(g.c)
		t.given[i] = give(g.kind, x, y, z)
	}
}

func (t *trial) bits(e int) uint64 {
	return turned(t.given[e/2], e)
}

// values tells of each gate of the circuit, up to a number, whether it gives 1 in
// the first place where the edge holds, as far as the edge hangs on it.
func (t *trial) values(number int) []bool {
	place := uint64(1)
	for place != 0 && t.bits(t.goal)&place == 0 {
		place *= 2
	}
	values := make([]bool, number)
	for i := 0; i < len(t.gates); i++ {
		values[t.numbers[i]] = t.given[i]&place != 0
	}
	return values
}
