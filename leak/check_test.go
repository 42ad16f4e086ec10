package leak_test

import (
	"math/rand"
	"strings"
	"testing"

	"leak/api"
	"leak/leak"
)

func checkPlace(t *testing.T, text string) {
	t.Helper()
	e, at := leak.Check(text)
	want := place(text)
	if len(text) > api.MaxText {
		if e != api.ErrLong || at != 0 {
			t.Fatalf("P3: Check(%q) = %d, %d, want ErrLong, 0", text, e, at)
		}
	} else if want < 0 {
		if e != api.OK || at != 0 {
			t.Fatalf("P3: Check(%q) = %d, %d, want OK, 0", text, e, at)
		}
	} else if e != api.ErrForm || at != want {
		t.Fatalf("P3: Check(%q) = %d, %d, want ErrForm, %d", text, e, at, want)
	}
}

func TestCheckExamples(t *testing.T) {
	for _, c := range []struct {
		kernel string
		e      api.Errno
		at     int
	}{
		{"2sp/ppp:lab?a(s0b)()", api.OK, 0},
		{"2sp/ppp:lac", api.ErrForm, 10},
		{"2sp/ppp:?a(s0b)", api.ErrForm, 15},
		{"9s/:", api.ErrForm, 0},
	} {
		if e, at := leak.Check(c.kernel); e != c.e || at != c.at {
			t.Errorf("P3: Check(%q) = %d, %d, want %d, %d", c.kernel, e, at, c.e, c.at)
		}
	}
}

func TestCheckLengths(t *testing.T) {
	head := "1p/p:"
	room := api.MaxText - len(head)
	deep := strings.Repeat("!a(", room/4) + strings.Repeat(")", room/4)
	for _, c := range []struct {
		kernel string
		e      api.Errno
		at     int
	}{
		{head + strings.Repeat("=aa+1", room/5), api.OK, 0},
		{head + strings.Repeat("=aa+1", room/5) + "l", api.ErrLong, 0},
		{head + strings.Repeat("=aa+1", room/5+1), api.ErrLong, 0},
		{head + deep, api.OK, 0},
		{head + deep + ")", api.ErrForm, len(head) + len(deep)},
		{head + strings.Repeat("!a(", room/3), api.ErrForm, len(head) + room/3*3},
		{head + strings.Repeat("?a(", room/3), api.ErrForm, len(head) + room/3*3},
		{strings.Repeat("\x00", api.MaxText), api.ErrForm, 0},
		{strings.Repeat("\x00", api.MaxText+1), api.ErrLong, 0},
	} {
		if e, at := leak.Check(c.kernel); e != c.e || at != c.at {
			t.Errorf("P3: Check of %d bytes %.20q = %d, %d, want %d, %d", len(c.kernel), c.kernel, e, at, c.e, c.at)
		}
	}
}

// TestCheckEveryByte lays each byte there is at each place of a kernel that
// has everything in it.
func TestCheckEveryByte(t *testing.T) {
	const kernel = "3pspspsps/pspspspspspspsps:=ab+1lb7s3c?d(=eeUe!0())(s12lhg)!f(?9()())=gg%0"
	for at := 0; at <= len(kernel); at++ {
		checkPlace(t, kernel[:at])
		for b := 0; b < 256; b++ {
			checkPlace(t, kernel[:at]+string([]byte{byte(b)})+kernel[at:])
			if at < len(kernel) {
				checkPlace(t, kernel[:at]+string([]byte{byte(b)})+kernel[at+1:])
			}
		}
	}
}

func TestCheckEveryVariable(t *testing.T) {
	for vars := 1; vars <= 8; vars++ {
		head := "1" + strings.Repeat("p", vars) + "/:"
		for b := 0; b < 256; b++ {
			for _, body := range []string{"=_a+a", "=a_+a", "=aa_a", "=aa+_", "l_a", "la_", "s_a", "sa_", "?_()()", "!_()"} {
				checkPlace(t, head+strings.Replace(body, "_", string([]byte{byte(b)}), 1))
			}
		}
	}
}

func TestCheckMadeTexts(t *testing.T) {
	m := maker{Rand: rand.New(rand.NewSource(3))}
	const likely = "012389psabhlsd=+-&|^<UD/%?!():zjx \x00\xff"
	for i := 0; i < 30000; i++ {
		text := []byte(m.kernel())
		checkPlace(t, string(text))
		checkPlace(t, string(text[:m.Intn(len(text)+1)]))
		for n := 1 + m.Intn(3); n > 0; n-- {
			text[m.Intn(len(text))] = likely[m.Intn(len(likely))]
		}
		checkPlace(t, string(text))
		cut := m.Intn(len(text))
		checkPlace(t, string(append(text[:cut:cut], text[cut+1:]...)))
	}
}

// TestCheckByDefinition holds the place against the words of P3 themselves:
// the piece ahead of it can be made a kernel of, one byte more cannot.
func TestCheckByDefinition(t *testing.T) {
	ends := []string{"", "1p/:", "p/:", "/:", ":", "aa+a", "a+a", "+a", "a", "aa", "a()()", "()()", "a()", "()"}
	closers := []string{"", ")", ")()", "))", "))()", ")())", ")())()"}
	begins := func(piece string) bool {
		for _, end := range ends {
			for _, closer := range closers {
				if e, _ := leak.Check(piece + end + closer); e == api.OK {
					return true
				}
			}
		}
		return false
	}
	const kernel = "2ps/s:=ab+1?a(!b(sa0)lb7)(s12)"
	for at := 0; at <= len(kernel); at++ {
		for b := 0; b < 256; b++ {
			text := kernel[:at] + string([]byte{byte(b)})
			e, where := leak.Check(text)
			if e == api.OK {
				where = len(text)
			}
			if !begins(text[:where]) {
				t.Errorf("P3: no kernel begins with %q", text[:where])
			}
			if where < len(text) && begins(text[:where+1]) {
				t.Errorf("P3: a kernel begins with %q", text[:where+1])
			}
		}
	}
}
