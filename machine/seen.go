package machine

import (
	"leak/api"
	"leak/syntax"
)

func (m *machine) see(b byte) {
	m.seen = append(m.seen, b)
}

// seeWord lets the word with the number x be seen, and traps the run if there
// is none.
func (m *machine) seeWord(x int) {
	shown := x
	if m.view >= api.Line {
		shown = halve(x, m.view-api.Line)
	}
	m.see('m')
	m.see(syntax.Digit(shown / 16))
	m.see(syntax.Digit(shown % 16))
	if x >= m.head.Words {
		m.see('o')
		m.trapped = true
	}
}

// seeDivision lets be seen that x is divided by y, and traps the run if y is 0.
func (m *machine) seeDivision(x, y int) {
	if y != 0 {
		m.see('v')
	} else {
		m.see('x')
		m.trapped = true
	}
	if m.view == api.Time {
		m.see(syntax.Digit(bits(x)))
		m.see(syntax.Digit(bits(y)))
	}
}
