package circuit

// The kinds of gates.
const (
	nought = 0 // gives 0: the gate 0 alone
	input  = 1 // a bit that goes in
	and    = 2 // a and b
	xor    = 3 // a or b, but not both
	choice = 4 // b, if a holds, else c
)

// A gate gives a bit, by the edges a, b and c. What a kind has no use for is 0.
type gate struct {
	kind int
	a    int
	b    int
	c    int
}

// give tells what a gate of some kind gives, in each of 64 places, by what its edges
// give there.
func give(kind int, a, b, c uint64) uint64 {
	switch kind {
	case and:
		return a & b
	case xor:
		return a ^ b
	case choice:
		return a&b | ^a&c
	}
	return 0
}

// turned tells what an edge gives, by what its gate gives.
func turned(given uint64, e int) uint64 {
	if e&1 == 1 {
		return ^given
	}
	return given
}
