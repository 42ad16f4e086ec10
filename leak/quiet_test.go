package leak_test

import (
	"fmt"
	"slices"
	"strings"
	"testing"

	"leak/api"
	"leak/leak"
)

const enough = 300 // fuel for any kernel without loops: it has no more commands than bytes

// kinds tells the letters of a kernel's head, one for each number of an input.
func kinds(kernel string) string {
	head := kernel[1:strings.IndexByte(kernel, ':')]
	return strings.Replace(head, "/", "", 1)
}

// inputOf tells the input of a kernel whose values stand in the bits of a number.
func inputOf(kernel string, number int) []int {
	s, _ := shapeOf(kernel)
	in := make([]int, s.vars+s.words)
	for i := range in {
		in[i] = number & (1<<s.width - 1)
		number >>= s.width
	}
	return in
}

// bitsOf tells in how many bits all values of an input of a kernel stand.
func bitsOf(kernel string) int {
	s, _ := shapeOf(kernel)
	return s.width * (s.vars + s.words)
}

// quietByTrying tells whether a kernel is quiet, by running all its inputs.
func quietByTrying(kernel string, view int) bool {
	letters := kinds(kernel)
	seen := map[string]string{}
	for number := range 1 << bitsOf(kernel) {
		in := inputOf(kernel, number)
		public := ""
		for i, value := range in {
			if letters[i] == 'p' {
				public += fmt.Sprint(value, " ")
			}
		}
		text := runByText(kernel, view, in, enough).Seen
		first, ok := seen[public]
		if ok && first != text {
			return false
		}
		seen[public] = text
	}
	return true
}

// alike tells whether two inputs of a kernel are alike.
func alike(kernel string, x, y []int) bool {
	for i, letter := range kinds(kernel) {
		if letter == 'p' && x[i] != y[i] {
			return false
		}
	}
	return true
}

// isInput tells whether a list is an input of a kernel.
func isInput(kernel string, in []int) bool {
	s, _ := shapeOf(kernel)
	outside := func(value int) bool { return value < 0 || value >= 1<<s.width }
	return len(in) == s.vars+s.words && !slices.ContainsFunc(in, outside)
}

// isQuiet tells what Decide answers about a kernel without loops, after a look at
// the lists that come with the answer.
func isQuiet(t *testing.T, kernel string, view int) bool {
	t.Helper()
	a, x, y, e := leak.Decide(kernel, view)
	says := fmt.Sprintf("P9: Decide(%q, %d) = %d, %v, %v, %d", kernel, view, a, x, y, e)
	switch {
	case e != api.OK || a != api.Yes && a != api.No:
		t.Fatal(says)
	case a == api.Yes && (len(x) != 0 || len(y) != 0):
		t.Fatal(says)
	case a == api.No && (!isInput(kernel, x) || !isInput(kernel, y)):
		t.Fatalf("%s: no inputs", says)
	case a == api.No && !alike(kernel, x, y):
		t.Fatalf("%s: they are not alike", says)
	}
	if a == api.Yes {
		return true
	}
	r, f := leak.Run(kernel, view, x, enough)
	q, g := leak.Run(kernel, view, y, enough)
	if f != api.OK || g != api.OK || r.Seen == q.Seen {
		t.Fatalf("%s: of both %q is seen (%d, %d)", says, r.Seen, f, g)
	}
	if runByText(kernel, view, x, enough).Seen == runByText(kernel, view, y, enough).Seen {
		t.Fatalf("%s: of both the same is seen, by the text", says)
	}
	return false
}

// straight makes a body without loops.
func (m *maker) straight(most, depth int) string {
	s := ""
	for n := m.Intn(most + 1); n > 0; n-- {
		kind := m.Intn(8)
		if kind < 6 || depth == 0 {
			s += m.plain(kind % 6)
			continue
		}
		s += "?" + m.operand() + "(" + m.straight(most/2, depth-1) + ")(" + m.straight(most/2, depth-1) + ")"
	}
	return s
}

// small makes a kernel without loops whose inputs have at most some bits.
func (m *maker) small(most int) string {
	for {
		m.shape = shape{1 + m.Intn(4), 1 + m.Intn(3), m.Intn(5)}
		if m.width*(m.vars+m.words) <= most {
			return fmt.Sprintf("%d%s/%s:", m.width, m.letters(m.vars), m.letters(m.words)) + m.straight(6, 2)
		}
	}
}

// great makes a kernel without loops of any size.
func (m *maker) great() string {
	for {
		k := m.head() + m.straight(40, 3)
		if len(k) <= api.MaxText {
			return k
		}
	}
}

// alikeInputs makes two inputs of the kernel that was made last that are alike.
func (m *maker) alikeInputs(kernel string) ([]int, []int) {
	x, y := m.input(), m.input()
	for i, letter := range kinds(kernel) {
		if letter == 'p' {
			y[i] = x[i]
		}
	}
	return x, y
}
