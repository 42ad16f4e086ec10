package circuit

import (
	"math/rand"
	"slices"
	"testing"
)

// run tells what each gate gives, by the values of the bits that go in.
func (c *Circuit) run(in []int) []int {
	given := make([]int, len(c.gates))
	at := 0
	bit := func(e int) int { return given[e/2] ^ e&1 }
	for i, g := range c.gates {
		switch {
		case i == 0:
		case g.kind == input:
			given[i] = in[at]
			at++
		case g.kind == and:
			given[i] = bit(g.a) & bit(g.b)
		case g.kind == xor:
			given[i] = bit(g.a) ^ bit(g.b)
		case g.kind == choice && bit(g.a) == 1:
			given[i] = bit(g.b)
		case g.kind == choice:
			given[i] = bit(g.c)
		}
	}
	return given
}

// valueIn tells the value of a word, by what each gate gives.
func valueIn(given, word []int) int {
	value := 0
	for i, e := range word {
		value |= (given[e/2] ^ e&1) << i
	}
	return value
}

// truth tells what an edge gives for all values of n bits that go in: each is a bit
// of a number.
func (c *Circuit) truth(e, n int) uint64 {
	table := uint64(0)
	for number := range 1 << n {
		table |= uint64(valueIn(c.run(bitsOf(number, n)), []int{e})) << number
	}
	return table
}

func bitsOf(number, n int) []int {
	bits := make([]int, n)
	for i := range bits {
		bits[i] = number >> i & 1
	}
	return bits
}

// made is a circuit made at random over n bits that go in, with what each edge must
// give for all their values.
type made struct {
	*Circuit
	n      int
	edges  []int
	tables []uint64
}

func newMade(n int) *made {
	m := &made{Circuit: New(), n: n}
	m.add(False, 0)
	for i := range n {
		table := uint64(0)
		for number := range 1 << n {
			table |= uint64(number>>i&1) << number
		}
		m.add(m.Input(), table)
	}
	return m
}

func (m *made) add(e int, table uint64) {
	m.edges = append(m.edges, e)
	m.tables = append(m.tables, table)
}

// any tells an edge, or the contrary of one, and its table.
func (m *made) any(r *rand.Rand) (int, uint64) {
	at := r.Intn(len(m.edges))
	if r.Intn(2) == 0 {
		return m.edges[at], m.tables[at]
	}
	return m.edges[at] ^ 1, ^m.tables[at] & (1<<(1<<m.n) - 1)
}

func (m *made) grow(r *rand.Rand) {
	x, a := m.any(r)
	y, b := m.any(r)
	z, c := m.any(r)
	switch r.Intn(4) {
	case 0:
		m.add(m.And(x, y), a&b)
	case 1:
		m.add(m.Or(x, y), a|b)
	case 2:
		m.add(m.Xor(x, y), a^b)
	case 3:
		m.add(m.Choice(x, y, z), a&b|c&^a)
	}
}

// checkForm looks whether gates are in order, and no two the same.
func checkForm(t *testing.T, c *Circuit) {
	t.Helper()
	seen := map[gate]bool{}
	for i, g := range c.gates {
		if g.kind == nought || g.kind == input {
			continue
		}
		if seen[g] {
			t.Fatalf("gate %d, %v, is there twice", i, g)
		}
		seen[g] = true
		if max(g.a, g.b, g.c)/2 >= i || min(g.a, g.b) < 2 {
			t.Fatalf("gate %d is %v", i, g)
		}
	}
}

// TestGates: whatever is built gives what it must, in however plain a way it is
// built.
func TestGates(t *testing.T) {
	r := rand.New(rand.NewSource(61))
	for range 3000 {
		m := newMade(1 + r.Intn(5))
		for range 40 {
			m.grow(r)
			last := len(m.edges) - 1
			if got := m.truth(m.edges[last], m.n); got != m.tables[last] {
				t.Fatalf("edge %d gives %b, want %b: %v", m.edges[last], got, m.tables[last], m.gates)
			}
		}
		checkForm(t, m.Circuit)
	}
}

// TestPlain: what two gates one behind the other say plainly needs no third one.
func TestPlain(t *testing.T) {
	c := New()
	x, y, z := c.Input(), c.Input(), c.Input()
	both, either, sum, one := c.And(x, y), c.Or(x, y), c.Xor(x, y), c.Choice(x, y, z)
	long := c.Xor(c.Xor(z, x), c.Xor(y, both))
	gates := len(c.gates)
	for i, p := range [][2]int{
		{c.And(x, False), False}, {c.And(True, x), x}, {c.And(x, x), x}, {c.And(x, x^1), False}, {c.And(y, x), both},
		{c.And(both, x), both}, {c.And(both, y^1), False}, {c.And(both^1, x^1), x ^ 1}, {c.And(both, either), both},
		{c.And(either, x), x}, {c.And(either^1, both), False}, {c.And(either, c.Or(x, y^1)), x}, {c.And(either, c.Or(x^1, y)), y},
		{c.Xor(x, x), False}, {c.Xor(x, x^1), True}, {c.Xor(x, False), x}, {c.Xor(True, x), x ^ 1}, {c.Xor(y, x^1), sum ^ 1},
		{c.Xor(sum, x), y}, {c.Xor(sum^1, y), x ^ 1}, {c.Xor(c.Xor(long, both), z^1), sum ^ 1}, {c.Xor(long, long^1), True},
		{c.Choice(True, x, y), x}, {c.Choice(False, x, y), y}, {c.Choice(z, x, x), x}, {c.Choice(x, y, False), both},
		{c.Choice(x, True, y), either}, {c.Choice(x, y^1, y), sum}, {c.Choice(x^1, z, y), one}, {c.Choice(x, y^1, z^1), one ^ 1},
		{c.Choice(x, x, y), either}, {c.Choice(x, y, x), both}, {c.Choice(x, one, z), one}, {c.Choice(x, y, one), one},
		{c.Choice(x^1, one^1, y^1), one ^ 1}, {c.Choice(x, x^1, x), False},
	} {
		if p[0] != p[1] {
			t.Errorf("%d: edge %d, want %d", i, p[0], p[1])
		}
	}
	const through = 4 // gates on the way to some of these: y^1 or x, sums of long without both
	if len(c.gates) > gates+through {
		t.Errorf("%d gates, then %d", gates, len(c.gates))
	}
}

// TestSumsOfBits: bits that come twice leave a sum, however it was built.
func TestSumsOfBits(t *testing.T) {
	c := New()
	x, y, z := c.Input(), c.Input(), c.Input()
	first, second := c.Xor(c.Xor(x, y), z), c.Xor(x, c.Xor(y, z))
	v, w := c.Input(), c.Input()
	if first == second || c.Xor(first, second) != False {
		t.Errorf("the sums are %d and %d", first, second)
	}
	if got, want := c.Xor(c.Xor(first, v), c.Xor(w, second)), c.Xor(v, w); got != want {
		t.Errorf("the sum is %d, want %d", got, want)
	}
	if got := c.Xor(c.Xor(first, v), c.Xor(v, c.Xor(y, x))); got != z {
		t.Errorf("the sum is %d, want %d", got, z)
	}
}

// TestManyGates: gates are found again, however many there are.
func TestManyGates(t *testing.T) {
	c := New()
	in := c.Inputs(200)
	build := func() []int {
		var edges []int
		for i := range in {
			for j := range i {
				edges = append(edges, c.And(in[i], in[j]^1))
			}
		}
		return edges
	}
	first := build()
	gates := len(c.gates)
	if second := build(); !slices.Equal(first, second) || len(c.gates) != gates {
		t.Errorf("%d gates, then %d", gates, len(c.gates))
	}
	checkForm(t, c)
	if len(c.rows) < len(c.gates) {
		t.Errorf("%d gates lie in %d rows", len(c.gates), len(c.rows))
	}
}

// TestAsk: a question is answered with yes if some values let the edge hold, and
// such values are told; by the solver as by trying all.
func TestAsk(t *testing.T) {
	r := rand.New(rand.NewSource(62))
	for range 2000 {
		n := 1 + r.Intn(6)
		m := newMade(n)
		inputs := slices.Clone(m.edges[1:])
		for range 20 {
			m.grow(r)
			e, table := m.any(r)
			if m.asks(e) != (table != 0) {
				t.Fatalf("Ask(%d) of %b", e, table)
			}
			if e > True && table != 0 && table>>m.Value(inputs)&1 == 0 {
				t.Fatalf("Ask(%d) of %b found %b", e, table, m.Value(inputs))
			}
			if e <= True && m.Value(inputs) != 0 {
				t.Fatalf("Ask(%d) found %b", e, m.Value(inputs))
			}
			if e <= True {
				continue
			}
			m.values = nil
			if m.try(e) != (table != 0) {
				t.Fatalf("all were tried for %d, of %b", e, table)
			}
			if table != 0 && table>>m.Value(inputs)&1 == 0 {
				t.Fatalf("all were tried for %d, of %b: found %b", e, table, m.Value(inputs))
			}
		}
	}
}

// try asks a question by trying all values alone.
func (c *Circuit) try(e int) bool {
	c.nameAll(e / 2)
	return c.tryAll(c.newTrial(e)) == Yes
}

// asks asks a question, however long it takes.
func (c *Circuit) asks(e int) bool { return c.Ask(e, 0) == Yes }

// TestInputsOf: an edge hangs on the bits from which it is built.
func TestInputsOf(t *testing.T) {
	c := New()
	x, y, z := c.Inputs(3), c.Inputs(3), c.Inputs(1)
	both, sum := c.AndWords(x, y), c.Sum(x, y)
	for i, p := range [][2][]int{
		{c.InputsOf(False), nil}, {c.InputsOf(True), nil}, {c.InputsOf(z[0]), z}, {c.InputsOf(z[0] ^ 1), z},
		{c.InputsOf(both[1]), {x[1], y[1]}}, {c.InputsOf(sum[1]), {x[0], x[1], y[0], y[1]}},
		{c.InputsOf(c.Choice(z[0], both[2], y[0])), {x[2], y[0], y[2], z[0]}},
	} {
		if !slices.Equal(p[0], p[1]) {
			t.Errorf("%d: %v, want %v", i, p[0], p[1])
		}
	}
}

// TestKnownBits: a word may have bits that are known beside those that go in.
func TestKnownBits(t *testing.T) {
	c := New()
	x, y := c.Input(), c.Input()
	word := []int{True, x, False, y, True}
	if got := c.Value(word); got != 17 {
		t.Errorf("%d, before any question", got)
	}
	if !c.asks(c.And(x^1, y)) || c.Value(word) != 25 {
		t.Errorf("%d was found", c.Value(word))
	}
	if !c.asks(True) || c.Value(word) != 17 {
		t.Errorf("%d was found for what always holds", c.Value(word))
	}
}

// TestTrialOfMany: more bits go in than are tried at once, and what is looked for
// comes late or not at all.
func TestTrialOfMany(t *testing.T) {
	for _, n := range []int{lanes - 1, lanes, lanes + 1, 10} {
		c := New()
		word := c.Inputs(n)
		for value := range 1 << n {
			if !c.try(c.Is(word, value)) || c.Value(word) != value {
				t.Errorf("%d bits: %d was looked for, %d found", n, value, c.Value(word))
			}
		}
		no := c.And(c.IsLess(word, Constant(n, 5)), c.IsLess(Constant(n, 5), word))
		if c.try(no) || c.asks(no) {
			t.Errorf("%d bits: what is not was found", n)
		}
	}
}

// TestTooMuchWork: more values than can be tried in time are left to the solver.
func TestTooMuchWork(t *testing.T) {
	c := New()
	word := c.Inputs(200)
	for n := 1; n <= len(word); n++ {
		some := word[:n]
		trial := c.newTrial(c.Is(some, 1))
		conflicts := trial.conflicts()
		work := 1.0
		for i := lanes; i < n; i++ {
			work *= 2
		}
		work *= float64(len(trial.gates))
		if conflicts == 0 && work < 1<<26 || conflicts > 0 && work > 1<<33 {
			t.Errorf("%d bits, %d gates: %d conflicts", n, len(trial.gates), conflicts)
		}
		if conflicts < 0 || conflicts > 1<<20 {
			t.Errorf("%d bits: %d conflicts", n, conflicts)
		}
	}
	few := word[:60]
	if !c.asks(c.Is(few, 1<<59+77)) || c.Value(few) != 1<<59+77 {
		t.Errorf("%b was found", c.Value(few))
	}
}
