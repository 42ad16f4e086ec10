package leak_test

import (
	"math/rand"
	"slices"
	"strings"
	"testing"

	"leak/api"
	"leak/leak"
)

// codeOf tells the code that Lower answers, after a look at its form.
func codeOf(t *testing.T, kernel string) string {
	t.Helper()
	code, e := leak.Lower(kernel)
	if e != api.OK {
		t.Fatalf("P7: Lower(%q) = %q, %d", kernel, code, e)
	}
	head := kernel[:strings.IndexByte(kernel, ':')+1]
	if !strings.HasPrefix(code, head) {
		t.Fatalf("P7: Lower(%q) = %q, which has another head", kernel, code)
	}
	if e, at := codeAnswer(code); e != api.OK {
		t.Fatalf("P7: Lower(%q) = %q, which is no code: %d, %d", kernel, code, e, at)
	}
	return code
}

// agree holds a kernel's run with the fuel n and its code's run with the fuel m
// against each other, by all that P7 names.
func agree(t *testing.T, kernel, code string, n, m int, r, x api.Result) {
	t.Helper()
	same := r.Tag == x.Tag && r.Seen == x.Seen && slices.Equal(r.State, x.State)
	if r.Tag != api.Fuel && m >= 2*r.Steps+2 && !same {
		t.Fatalf("P7: kernel %q, fuel %d: %v; its code %q, fuel %d: %v", kernel, n, r, code, m, x)
	}
	if x.Tag != api.Fuel && n >= x.Steps && !same {
		t.Fatalf("P7: code %q, fuel %d: %v; its kernel %q, fuel %d: %v", code, m, x, kernel, n, r)
	}
	codeFirst, kernelFirst := strings.HasPrefix(r.Seen, x.Seen), strings.HasPrefix(x.Seen, r.Seen)
	if !codeFirst && !kernelFirst || n >= m && !codeFirst || m >= 2*n+2 && !kernelFirst {
		t.Fatalf("P7: of kernel %q, fuel %d, is seen %q, of its code %q, fuel %d, %q", kernel, n, r.Seen, code, m, x.Seen)
	}
}

// agreeAtFuels holds the runs with all fuels up to a bound, and with a great
// one, against each other.
func agreeAtFuels(t *testing.T, kernel, code string, view int, in []int, most int) {
	t.Helper()
	var fuels []int
	for n := 0; n <= most; n++ {
		fuels = append(fuels, n)
	}
	fuels = append(fuels, 500, 1001, 1002)
	ofKernel := make([]api.Result, len(fuels))
	ofCode := make([]api.Result, len(fuels))
	for i, fuel := range fuels {
		var e, f api.Errno
		ofKernel[i], e = leak.Run(kernel, view, in, fuel)
		ofCode[i], f = leak.Exec(code, view, in, fuel)
		if e != api.OK || f != api.OK {
			t.Fatalf("P7: kernel %q: %d, its code %q: %d", kernel, e, code, f)
		}
	}
	for i, n := range fuels {
		for j, m := range fuels {
			agree(t, kernel, code, n, m, ofKernel[i], ofCode[j])
		}
	}
}

// TestLowerEveryInput: small kernels, at each view and each input.
func TestLowerEveryInput(t *testing.T) {
	for _, kernel := range []string{
		"1ps/:",
		"1ps/:=aa+b",
		"1ps/p:labs0a",
		"1ps/p:lab=aa/bsba",
		"1ps/:?a()()",
		"1ps/:?a(=bb+1)()",
		"1ps/:?a()(=bb+1)",
		"1ps/:?a(=bb+1)(=bb/a)=ab%a",
		"1ps/:?a(?b()())(?b()())",
		"1ps/:?a(?b(=bb+1)(=aa+b))(?b(=ab/a)(=bb+1))=aa^b",
		"1ps/:!a()",
		"1ps/:!a(=aa+1)",
		"1ps/:!a(=aa+1)!b(=bb+1)",
		"1ps/:!a(!b(=bb+1)=aa+1)",
		"1ps/:!a(=ab+0!b(=bb+1))",
		"1ps/:!a(!b(!a()))",
		"1ps/:!a(?b(=bb+1)(=aa+1))",
		"1ps/:!a(?b(=aa^b)())=bb/a",
		"1ps/:?a(!b(=ba^b))(!b(=bb-1)?b()(=a1+0))=bb%a",
		"1ps/p:?a(lb0)(sbb)?b(!a(la0))(!b(lbb))",
		"2p/:!a(=aa-1)",
		"2p/pp:!a(laa)s2a",
	} {
		code := codeOf(t, kernel)
		s, _ := shapeOf(kernel)
		in := make([]int, s.vars+s.words)
		for number := 0; number < 1<<(s.width*len(in)); number++ {
			for i := range in {
				in[i] = number >> (i * s.width) & (1<<s.width - 1)
			}
			for view := 0; view <= api.MaxView; view++ {
				agreeAtFuels(t, kernel, code, view, in, 30)
			}
		}
	}
}

func TestLowerMadeKernels(t *testing.T) {
	m := maker{Rand: rand.New(rand.NewSource(17))}
	var tags [4]int
	for i := 0; i < 1500; i++ {
		kernel := m.kernel()
		code := codeOf(t, kernel)
		for j := 0; j < 3; j++ {
			in := m.input()
			view := m.Intn(api.MaxView + 1)
			agreeAtFuels(t, kernel, code, view, in, 40)
			r, _ := leak.Run(kernel, view, in, 500)
			tags[r.Tag]++
		}
	}
	for _, tag := range []int{api.Halt, api.Trap, api.Fuel} {
		if tags[tag] < 300 {
			t.Errorf("only %d runs ended with the tag %d", tags[tag], tag)
		}
	}
}

// TestLowerGreatKernels: of these the codes have the most lines and bytes.
func TestLowerGreatKernels(t *testing.T) {
	fill := func(head, piece string) string {
		return head + strings.Repeat(piece, (api.MaxText-len(head))/len(piece))
	}
	nest := func(head, left, right string) string {
		n := (api.MaxText - len(head)) / len(left+right)
		return head + strings.Repeat(left, n) + strings.Repeat(right, n)
	}
	for _, kernel := range []string{
		fill("1p/:", "!a()"), fill("1p/:", "?a()()"), fill("1p/p:", "la0"), fill("1p/:", "=aa+1"), fill("1p/:", "=aa/a"),
		fill("1p/p:", "!a(la0)"), fill("1p/p:", "?a(la0)(la0)"), fill("1p/p:", "?a(la0)(la0=aa+1)"), fill("1p/:", "!a(?a()())"), fill("1p/:", "!a(=aa+1)"),
		nest("1p/:", "!a(", ")"), nest("1p/p:", "!a(", "la0)"), nest("1p/p:", "!a(la0", ")"), nest("1p/:", "!a(", "?a()())"),
		nest("1p/:", "?a(", ")()"), nest("1p/:", "?a()(", ")"), nest("1p/p:", "?a(la0", ")(la0)"), nest("1p/p:", "?a(la0)(", "la0)"), nest("1p/:", "!a(?a(", ")())"),
	} {
		code := codeOf(t, kernel)
		s, _ := shapeOf(kernel)
		for value := 0; value < 2; value++ {
			in := make([]int, s.vars+s.words)
			for i := range in {
				in[i] = value
			}
			agreeAtFuels(t, kernel, code, api.Base, in, 200)
		}
		in := make([]int, s.vars+s.words)
		in[0] = 1
		agreeAtFuels(t, kernel, code, api.Time, in, 200)
	}
}

// TestLowerGreatFuels: the fuels at the edge that P7 names, of long runs.
func TestLowerGreatFuels(t *testing.T) {
	for _, kernel := range []string{"8p/:!a(=aa-1)", "8ps/:!a(=aa-1=bb+a)=bb/a", "8p/p:!1(la0=aa-1s0a)", "8ps/:!a(?b(=bb-1)(=aa-1=b3+0))"} {
		code := codeOf(t, kernel)
		s, _ := shapeOf(kernel)
		in := make([]int, s.vars+s.words)
		for i := range in {
			in[i] = 255 - i
		}
		r, _ := leak.Run(kernel, api.Base, in, api.MaxFuel)
		x, _ := leak.Exec(code, api.Base, in, api.MaxFuel)
		edges := []int{0, 1, 100, 202, r.Steps - 1, r.Steps, r.Steps + 1, x.Steps - 1, x.Steps, x.Steps + 1, 2*r.Steps + 1, 2*r.Steps + 2, api.MaxFuel}
		for _, n := range edges {
			for _, m := range edges {
				if n > api.MaxFuel || m > api.MaxFuel {
					continue
				}
				r, _ := leak.Run(kernel, api.Base, in, n)
				x, _ := leak.Exec(code, api.Base, in, m)
				agree(t, kernel, code, n, m, r, x)
			}
		}
	}
}

func TestLowerErrors(t *testing.T) {
	m := maker{Rand: rand.New(rand.NewSource(18))}
	texts := []string{"", "1p/", "1p/:h", "1p/:za00h", "1p/:j00", "1p/:?a()", "1p/:" + strings.Repeat("?a(", 49), "1p/:" + strings.Repeat("!a()", 75), strings.Repeat("h", 1001)}
	for i := 0; i < 20000; i++ {
		text := []byte(m.kernel())
		text[m.Intn(len(text))] = byte(m.Intn(256))
		texts = append(texts, string(text), string(text)+m.body(2), m.code())
	}
	for _, text := range texts {
		want, _ := leak.Check(text)
		code, e := leak.Lower(text)
		if e != want || (e == api.OK) == (code == "") {
			t.Fatalf("P7: Lower(%q) = %q, %d, want the error %d", text, code, e, want)
		}
		again, _ := leak.Lower(text)
		if again != code {
			t.Fatalf("P2: Lower(%q) = %q, then %q", text, code, again)
		}
	}
}
