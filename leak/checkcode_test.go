package leak_test

import (
	"fmt"
	"math/rand"
	"strings"
	"testing"

	"leak/api"
	"leak/leak"
)

func checkCode(t *testing.T, text string) {
	t.Helper()
	e, at := leak.CheckCode(text)
	want, place := codeAnswer(text)
	if e != want || at != place {
		t.Fatalf("P5: CheckCode(%q) = %d, %d, want %d, %d", text, e, at, want, place)
	}
}

func TestCheckCodeExamples(t *testing.T) {
	for _, c := range []struct {
		code string
		e    api.Errno
		at   int
	}{
		{"2s/:za03=aa-1j00h", api.OK, 0},
		{"2s/:za04=aa-1j00h", api.ErrJump, 0},
		{"2s/:za02=aa-1", api.ErrJump, 0},
		{"2s/:=aa-1", api.ErrJump, 1},
		{"2s/:", api.ErrForm, 4},
	} {
		if e, at := leak.CheckCode(c.code); e != c.e || at != c.at {
			t.Errorf("P5: CheckCode(%q) = %d, %d, want %d, %d", c.code, e, at, c.e, c.at)
		}
	}
}

func TestCheckCodeEdges(t *testing.T) {
	ends := func(n int) string { return strings.Repeat("h", n) }
	for _, c := range []struct {
		code string
		e    api.Errno
		at   int
	}{
		// Every line alone. Those that go on at the next one have none.
		{"1p/p:h", api.OK, 0}, {"1p/p:j00", api.OK, 0},
		{"1p/p:=aa+a", api.ErrJump, 1}, {"1p/p:laa", api.ErrJump, 1}, {"1p/p:saa", api.ErrJump, 1}, {"1p/p:za00", api.ErrJump, 1},
		// The last line may be j, which goes on elsewhere; it need not be there that it ends.
		{"1p/p:=aa+aj00", api.OK, 0}, {"1p/p:hlaaj01", api.OK, 0}, {"1p/p:hlaa", api.ErrJump, 2},
		// A line that is not there: the first such line is told, and ahead of the last line's fault.
		{"1p/p:j01", api.ErrJump, 0}, {"1p/p:j01h", api.OK, 0}, {"1p/p:j02h", api.ErrJump, 0},
		{"1p/p:hz102zaff", api.ErrJump, 2}, {"1p/p:hza03j09laa", api.ErrJump, 2}, {"1p/p:hza04j09laa", api.ErrJump, 1},
		{"1p/p:hj03laa", api.ErrJump, 1}, {"1p/p:hj02laa", api.ErrJump, 3},
		// nn is to the base 16.
		{"1p/p:j0a" + ends(9), api.ErrJump, 0}, {"1p/p:j0a" + ends(10), api.OK, 0},
		{"1p/p:z010" + ends(15), api.ErrJump, 0}, {"1p/p:z010" + ends(16), api.OK, 0},
		{"1p/p:jff" + ends(254), api.ErrJump, 0}, {"1p/p:jff" + ends(255), api.OK, 0}, {"1p/p:" + ends(300) + "jff", api.OK, 0},
		// A fault of form comes ahead of one of jumps.
		{"1p/p:j99x", api.ErrForm, 8}, {"1p/p:j99laa ", api.ErrForm, 11}, {"1p/p:j99la", api.ErrForm, 10},
		{"1p/p:j9A", api.ErrForm, 7}, {"1p/p:j/0", api.ErrForm, 6}, {"1p/p:zag0h", api.ErrForm, 7}, {"1p/p:z00", api.ErrForm, 8}, {"1p/p:za0b", api.ErrJump, 0},
		// What kernels have and codes have not, and the other way.
		{"1p/p:?a()()", api.ErrForm, 5}, {"1p/p:h!a()", api.ErrForm, 6}, {"1p/p:h()", api.ErrForm, 6}, {"1p/p:hp", api.ErrForm, 6},
		// Lengths.
		{"1p/:" + ends(996), api.OK, 0}, {"1p/:" + ends(997), api.ErrLong, 0}, {"1p/:" + ends(995) + "=", api.ErrForm, 1000},
		{strings.Repeat("\x00", 1000), api.ErrForm, 0}, {strings.Repeat("\x00", 1001), api.ErrLong, 0},
	} {
		if e, at := leak.CheckCode(c.code); e != c.e || at != c.at {
			t.Errorf("P5: CheckCode(%.40q) = %d, %d, want %d, %d", c.code, e, at, c.e, c.at)
		}
	}
}

// TestCheckCodeEveryByte lays each byte there is at each place of a code that
// has everything in it.
func TestCheckCodeEveryByte(t *testing.T) {
	const code = "3pspspsps/pspspspspspspsps:=ab+1lb7s3czd07j06=gg%0hz90ah=eeUez008lhgj01"
	if e, at := leak.CheckCode(code); e != api.OK || at != 0 {
		t.Fatalf("P5: CheckCode(%q) = %d, %d", code, e, at)
	}
	for at := 0; at <= len(code); at++ {
		checkCode(t, code[:at])
		for b := 0; b < 256; b++ {
			checkCode(t, code[:at]+string([]byte{byte(b)})+code[at:])
			if at < len(code) {
				checkCode(t, code[:at]+string([]byte{byte(b)})+code[at+1:])
			}
		}
	}
}

func TestCheckCodeEveryVariable(t *testing.T) {
	for vars := 1; vars <= 8; vars++ {
		head := "1" + strings.Repeat("p", vars) + "/:"
		for b := 0; b < 256; b++ {
			for _, line := range []string{"=_a+a", "=a_+a", "=aa_a", "=aa+_", "l_a", "la_", "s_a", "sa_", "z_00", "za_0", "za0_", "j_0", "j0_", "_"} {
				checkCode(t, head+strings.Replace(line, "_", string([]byte{byte(b)}), 1)+"h")
			}
		}
	}
}

// TestCheckCodeEveryNumber: every line that z and j can name, of few lines and
// of many.
func TestCheckCodeEveryNumber(t *testing.T) {
	for _, n := range []int{1, 2, 9, 10, 11, 15, 16, 17, 160, 254, 255, 256, 257, 900} {
		for to := 0; to < 256; to++ {
			want, at := api.OK, 0
			if to >= n {
				want, at = api.ErrJump, n-1
			}
			code := fmt.Sprintf("1p/:%sj%02x", strings.Repeat("h", n-1), to)
			if e, got := leak.CheckCode(code); e != want || got != at {
				t.Fatalf("P5: CheckCode(%q) = %d, %d, want %d, %d", code, e, got, want, at)
			}
			if to >= n+1 {
				want = api.ErrJump
			} else {
				want, at = api.OK, 0
			}
			code = fmt.Sprintf("1p/:%sz1%02xh", strings.Repeat("h", n-1), to)
			if e, got := leak.CheckCode(code); e != want || got != at {
				t.Fatalf("P5: CheckCode(%q) = %d, %d, want %d, %d", code, e, got, want, at)
			}
		}
	}
}

func TestCheckCodeMadeTexts(t *testing.T) {
	m := maker{Rand: rand.New(rand.NewSource(13))}
	const likely = "012389psabhlsd=+-&|^<UD/%?!():zjhf \x00\xff"
	var errors [api.ErrLoop + 1]int
	for i := 0; i < 30000; i++ {
		text := []byte(m.code())
		if e, at := leak.CheckCode(string(text)); e != api.OK || at != 0 {
			t.Fatalf("P5: CheckCode(%q) = %d, %d", text, e, at)
		}
		checkCode(t, string(text[:m.Intn(len(text)+1)]))
		for n := 1 + m.Intn(3); n > 0; n-- {
			text[m.Intn(len(text))] = likely[m.Intn(len(likely))]
		}
		checkCode(t, string(text))
		cut := m.Intn(len(text))
		checkCode(t, string(append(text[:cut:cut], text[cut+1:]...)))
		// Lines in which nothing is wrong but where they go on.
		stray := m.head()
		for n := 1 + m.Intn(9); n > 0; n-- {
			stray += m.line(m.Intn(9), 1+m.Intn(14))
		}
		checkCode(t, stray)
		e, _ := leak.CheckCode(stray)
		errors[e]++
	}
	if errors[api.OK] < 1000 || errors[api.ErrJump] < 1000 || errors[api.ErrForm] > 0 {
		t.Errorf("of the stray codes so many have each error: %v", errors)
	}
}

// TestCheckCodeByDefinition holds the place against the words of the document:
// the piece ahead of it can be made lines of, one byte more cannot.
func TestCheckCodeByDefinition(t *testing.T) {
	ends := []string{"", "1p/:h", "p/:h", "/:h", ":h", "h", "aa+a", "a+a", "+a", "a", "aa", "a00", "00", "0"}
	begins := func(piece string) bool {
		for _, end := range ends {
			if e, _ := leak.CheckCode(piece + end); e != api.ErrForm {
				return true
			}
		}
		return false
	}
	const code = "2ps/s:=ab+1za07lb7s12z80aj03h"
	for at := 0; at <= len(code); at++ {
		for b := 0; b < 256; b++ {
			text := code[:at] + string([]byte{byte(b)})
			e, where := leak.CheckCode(text)
			if e != api.ErrForm {
				where = len(text)
			}
			if !begins(text[:where]) {
				t.Errorf("P5: no lines begin with %q", text[:where])
			}
			if where < len(text) && begins(text[:where+1]) {
				t.Errorf("P5: lines begin with %q", text[:where+1])
			}
		}
	}
}
