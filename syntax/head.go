package syntax

import "leak/api"

// Head is what stands ahead of a kernel's body and of a code's lines.
type Head struct {
	Text   string
	Width  int // bits of a value
	Values int // how many values there are, at least 2
	Vars   int
	Words  int
}

// IsInput tells whether a list has one value for each variable and each word.
func (h Head) IsInput(in []int) bool {
	if len(in) != h.Vars+h.Words {
		return false
	}
	for i := 0; i < len(in); i++ {
		if in[i] < 0 || in[i] >= h.Values {
			return false
		}
	}
	return true
}

// IsPublic tells whether a variable or, behind them, a word is public, by its
// number in a state.
func (h Head) IsPublic(number int) bool {
	at := 1 + number
	if number >= h.Vars {
		at++
	}
	return at >= 0 && at < len(h.Text) && h.Text[at] == 'p'
}

func (r *reader) readHead() {
	r.head.Width = 1 + r.takeBetween('1', '0'+api.MaxWidth)
	r.head.Values = 1
	for i := 0; i < r.head.Width; i++ {
		r.head.Values *= 2
	}
	r.head.Vars = r.takeLetters(api.MaxVars)
	if r.head.Vars == 0 {
		r.bad = true
	}
	r.take('/')
	r.head.Words = r.takeLetters(api.MaxWords)
	r.take(':')
	r.head.Text = r.text[:r.at]
}

// takeLetters takes letters p and s, as many as there are up to a bound, and tells how many.
func (r *reader) takeLetters(most int) int {
	n := 0
	for n < most {
		b := r.peek()
		if b != 'p' && b != 's' {
			break
		}
		r.take(b)
		n++
	}
	return n
}
