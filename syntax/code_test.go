package syntax

import (
	"slices"
	"strings"
	"testing"

	"leak/api"
)

func TestLines(t *testing.T) {
	c := ReadCode("2ps/s:=ab+7lb3sa1z10cj01h" + strings.Repeat("h", 8))
	a, b := Operand{Named: true, Number: 0}, Operand{Named: true, Number: 1}
	one, three := Operand{Number: 1}, Operand{Number: 3}
	want := []Command{
		{Kind: Set, Var: 0, X: b, Op: Add, Y: three, Yes: 1},
		{Kind: Load, Var: 1, X: three, Yes: 2},
		{Kind: Store, X: a, Y: one, Yes: 3},
		{Kind: Zero, X: one, Yes: 4, No: 12},
		{Kind: Jump, Yes: 1},
		{Kind: End, Yes: 14},
	}
	head := Head{Text: "2ps/s:", Width: 2, Values: 4, Vars: 2, Words: 1}
	if c.Error != api.OK || c.Place != 0 || c.Head != head || len(c.Commands) != 14 || !slices.Equal(c.Commands[:6], want) {
		t.Errorf("P5: read as %v", c)
	}
}

func TestNumbers(t *testing.T) {
	const digits = "0123456789abcdef"
	for n := 0; n < 256; n++ {
		r := reader{text: string([]byte{Digit(n / 16), Digit(n % 16)})}
		if r.text != string([]byte{digits[n/16], digits[n%16]}) {
			t.Errorf("P4: the digits of %d are %q", n, r.text)
		}
		if got := r.takeNumber(); got != n || r.bad || r.at != 2 {
			t.Errorf("P5: %q is read as %d", r.text, got)
		}
	}
}

func TestNoCodeHasNothing(t *testing.T) {
	for _, text := range []string{"", "1p/:", "1p/:?a()()", "1p/:j01", "1p/:=aa+a", strings.Repeat("h", 1001)} {
		c := ReadCode(text)
		if c.Error == api.OK || c.Head != (Head{}) || len(c.Commands) != 0 {
			t.Errorf("P1: ReadCode(%q) = %v", text, c)
		}
	}
}
