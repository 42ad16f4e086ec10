package syntax

import (
	"strings"
	"testing"

	"leak/api"
)

func TestHead(t *testing.T) {
	for _, c := range []struct {
		text string
		head Head
	}{
		{"1p/:", Head{Text: "1p/:", Width: 1, Values: 2, Vars: 1, Words: 0}},
		{"2sp/ppp:", Head{Text: "2sp/ppp:", Width: 2, Values: 4, Vars: 2, Words: 3}},
		{"8" + strings.Repeat("s", 8) + "/" + strings.Repeat("p", 16) + ":", Head{Text: "8ssssssss/pppppppppppppppp:", Width: 8, Values: 256, Vars: 8, Words: 16}},
	} {
		k := ReadKernel(c.text)
		if k.Error != api.OK || k.Place != 0 || k.Head != c.head || len(k.Commands) != 0 {
			t.Errorf("P3: ReadKernel(%q) = %v", c.text, k)
		}
	}
}

func TestIsInput(t *testing.T) {
	h := Head{Width: 2, Values: 4, Vars: 1, Words: 1}
	for _, c := range []struct {
		in   []int
		want bool
	}{
		{[]int{0, 3}, true}, {[]int{3, 0}, true},
		{nil, false}, {[]int{0}, false}, {[]int{0, 0, 0}, false},
		{[]int{4, 0}, false}, {[]int{0, 4}, false}, {[]int{-1, 0}, false}, {[]int{0, -1}, false},
	} {
		if h.IsInput(c.in) != c.want {
			t.Errorf("P4: IsInput(%v) is not %v", c.in, c.want)
		}
	}
}

func TestOperandsAreModuloValues(t *testing.T) {
	k := ReadKernel("2ps/:=ab+7")
	c := k.Commands[0]
	if c.Var != 0 || c.X != (Operand{Named: true, Number: 1}) || c.Op != '+' || c.Y != (Operand{Named: false, Number: 3}) {
		t.Errorf("P4: read as %v", c)
	}
}

// TestWhatFollows: the letters of want are, for each command, the numbers of
// those that follow it, if x is not 0 and if it is 0.
func TestWhatFollows(t *testing.T) {
	for _, c := range []struct{ body, want string }{
		{"", ""},
		{"=aa+1laasaa", "11 22 33"},
		{"?a()()", "11"},
		{"?a(laa)()", "12 22"},
		{"?a()(laa)", "21 22"},
		{"?a(laa)(laa)", "12 33 33"},
		{"?a(laa)(laa)laa", "12 33 33 44"},
		{"!a()", "01"},
		{"!a()laa", "01 22"},
		{"!a(laa)laa", "12 00 33"},
		{"!a(!a())", "12 10"},
		{"!a(!a(laa))", "13 20 11"},
		{"!a(?a()())", "12 00"},
		{"!a(?a(laa)(laa))laa", "14 23 00 00 55"},
		{"?a(?a(laa)(laa))(laa)", "14 23 55 55 55"},
		{"?a(!a(laa))(laa)", "13 24 11 44"},
		{"?a(laa?a()())(!a())", "13 22 44 34"},
	} {
		k := ReadKernel("1p/p:" + c.body)
		var got []string
		for _, command := range k.Commands {
			got = append(got, string([]byte{'0' + byte(command.Yes), '0' + byte(command.No)}))
		}
		if k.Error != api.OK || strings.Join(got, " ") != c.want {
			t.Errorf("P4: %s: %v, want %s", c.body, got, c.want)
		}
	}
}

// TestBodies: the letters of want are, for each branch, the numbers of the commands
// that its second body begins with and that stand behind it in the row.
func TestBodies(t *testing.T) {
	for _, c := range []struct{ body, want string }{
		{"laa=aa+1", ""},
		{"?a()()", "11"},
		{"?a(laa)()", "22"},
		{"?a()(laa)", "12"},
		{"laa?a(laa)(laa)laa", "34"},
		{"?a(?a()())(laa)", "23 22"},
		{"?a(?a(laa)(laa))(laa)", "45 34"},
		{"?a(laa?a()())(?a()(laa))", "35 33 45"},
		{"?a(!a(laa))(laa)", "34"},
		{"!a(laa?a(laa)(laa))laa", "45"},
	} {
		k := ReadKernel("1p/p:" + c.body)
		var got []string
		for _, command := range k.Commands {
			if command.Kind == Branch {
				got = append(got, string([]byte{'0' + byte(command.Second), '0' + byte(command.Behind)}))
			}
		}
		if k.Error != api.OK || strings.Join(got, " ") != c.want {
			t.Errorf("P9: %s: %v, want %s", c.body, got, c.want)
		}
	}
}

func TestHasLoop(t *testing.T) {
	for _, c := range []struct {
		body string
		want bool
	}{
		{"", false}, {"?a(laa)(=aa+1)", false}, {"!0()", true}, {"laa!a()", true},
		{"?a(!a())()", true}, {"?a()(?a(laa)(laa!1(laa)))", true},
	} {
		k := ReadKernel("1p/p:" + c.body)
		if k.HasLoop() != c.want {
			t.Errorf("P9: %s: HasLoop is not %v", c.body, c.want)
		}
	}
}

func TestIsPublic(t *testing.T) {
	for _, text := range []string{"1p/:", "1s/:", "2sp/:", "2sp/ps:", "3ssp/psspp:", "8ssssspss/pppppppppppppppp:", "8pppppppp/ssssspssssssssps:"} {
		k := ReadKernel(text)
		letters := strings.Replace(text[1:len(text)-1], "/", "", 1)
		for i := range letters {
			if k.Head.IsPublic(i) != (letters[i] == 'p') {
				t.Errorf("P9: %s: IsPublic(%d) = %v", text, i, k.Head.IsPublic(i))
			}
		}
		if k.Head.IsPublic(-9) || k.Head.IsPublic(len(letters)) || k.Head.IsPublic(99) {
			t.Errorf("P9: %s: there is more that is public than there is", text)
		}
	}
}

func TestNoKernelHasNothing(t *testing.T) {
	for _, text := range []string{"", "1p/:?a(laa", "1p/p:laa)", strings.Repeat("1", 301)} {
		k := ReadKernel(text)
		if k.Error == api.OK || k.Head != (Head{}) || len(k.Commands) != 0 {
			t.Errorf("P1: ReadKernel(%q) = %v", text, k)
		}
	}
}
