// Package syntax reads texts: heads, commands, kernels, codes.
package syntax

// A reader goes over a text from its beginning on. At the first byte that
// cannot stand where it stands it turns bad and goes no further, so that its
// place is the one that is told.
type reader struct {
	text     string
	at       int
	bad      bool
	head     Head
	commands []Command
}

// peek tells the next byte. At the end, and when the reader is bad, it is 0,
// which can stand nowhere.
func (r *reader) peek() byte {
	if r.bad || r.at >= len(r.text) {
		return 0
	}
	return r.text[r.at]
}

// take goes over one byte, which must be b.
func (r *reader) take(b byte) {
	if r.bad {
		return
	}
	if r.at >= len(r.text) || r.text[r.at] != b {
		r.bad = true
		return
	}
	r.at++
}

// takeBetween goes over one byte, which must be from low to high, and tells
// how far it is above low.
func (r *reader) takeBetween(low, high byte) int {
	b := r.peek()
	if b < low || b > high {
		r.bad = true
		return 0
	}
	r.take(b)
	return int(b - low)
}
