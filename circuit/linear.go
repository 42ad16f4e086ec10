package circuit

// A form is a word put down as a sum: some words, each some times, and a number,
// without what does not fit into the word. Sums of the same words, in whichever
// order and with whatever has been taken away again, have one form, while it can
// take very long to find out from their gates that they are the same.
type form struct {
	word  []int
	terms []term // in the order of their parts
	value int    // the number that is added to them
}

// A term is the word that is a circuit's form with the number part, some times.
type term struct {
	part  int
	times int
}

// unify tells a word that was built for a form before or, if there is none, the
// word that is built for it now.
func (c *Circuit) unify(f form) []int {
	if len(f.terms) == 0 {
		return Constant(len(f.word), f.value)
	}
	for i := 0; i < len(c.forms); i++ {
		if isSameForm(c.forms[i], f) {
			return c.forms[i].word
		}
	}
	c.forms = append(c.forms, f)
	return f.word
}

// formOf tells the form of a word. One that is no sum is a part of sums itself.
func (c *Circuit) formOf(word []int) form {
	if isConstant(word) {
		return form{word: word, value: valueOf(word)}
	}
	for i := 0; i < len(c.forms); i++ {
		if isSameWord(c.forms[i].word, word) {
			return c.forms[i]
		}
	}
	f := form{word: word}
	f.terms = append(f.terms, term{part: len(c.forms), times: 1})
	c.forms = append(c.forms, f)
	return f
}

// combine tells the form of a word that is f and, some times, g.
func combine(word []int, f, g form, times int) form {
	sum := form{word: word, value: wrap(f.value+times*g.value, len(word))}
	i := 0
	j := 0
	for i < len(f.terms) || j < len(g.terms) {
		var t term
		switch {
		case j == len(g.terms) || i < len(f.terms) && f.terms[i].part < g.terms[j].part:
			t = f.terms[i]
			i++
		case i == len(f.terms) || g.terms[j].part < f.terms[i].part:
			t = g.terms[j]
			t.times *= times
			j++
		default:
			t = f.terms[i]
			t.times += times * g.terms[j].times
			i++
			j++
		}
		t.times = wrap(t.times, len(word))
		if t.times != 0 {
			sum.terms = append(sum.terms, t)
		}
	}
	return sum
}

// wrap leaves out of a number what does not fit into a word.
func wrap(number, width int) int {
	return number & (1<<width - 1)
}

func isConstant(word []int) bool {
	for i := 0; i < len(word); i++ {
		if word[i] > True {
			return false
		}
	}
	return true
}

// valueOf tells the value of a word that is constant.
func valueOf(word []int) int {
	value := 0
	for i := len(word) - 1; i >= 0; i-- {
		value = 2*value + word[i]
	}
	return value
}

func isSameWord(x, y []int) bool {
	if len(x) != len(y) {
		return false
	}
	for i := 0; i < len(x); i++ {
		if x[i] != y[i] {
			return false
		}
	}
	return true
}

func isSameForm(f, g form) bool {
	if len(f.word) != len(g.word) || f.value != g.value || len(f.terms) != len(g.terms) {
		return false
	}
	for i := 0; i < len(f.terms); i++ {
		if f.terms[i] != g.terms[i] {
			return false
		}
	}
	return true
}
