package leak_test

import (
	"fmt"
	"math/rand"
	"slices"
	"strings"
	"testing"

	"leak/api"
	"leak/leak"
)

// halved tells what is seen by Line + k + 1, of what is seen by Line + k.
func halved(seen string) string {
	text := ""
	for at := 0; at < len(seen); at++ {
		text += seen[at : at+1]
		if seen[at] == 'm' {
			var line int
			fmt.Sscanf(seen[at+1:at+3], "%x", &line)
			text += fmt.Sprintf("%02x", line/2)
			at += 2
		}
	}
	return text
}

// timeless tells what is seen by Base, of what is seen by Time.
func timeless(seen string) string {
	text := ""
	for at := 0; at < len(seen); at++ {
		text += seen[at : at+1]
		if seen[at] == 'v' || seen[at] == 'x' {
			at += 2
		}
	}
	return text
}

// TestSeenFollows: what is seen in one view hangs on what is seen in another one.
func TestSeenFollows(t *testing.T) {
	m := &maker{Rand: rand.New(rand.NewSource(51))}
	for range 3000 {
		kernel := m.kernel()
		in := m.input()
		fuel := m.Intn(100)
		var seen [api.MaxView + 1]string
		for view := range seen {
			r, e := leak.Run(kernel, view, in, fuel)
			if e != api.OK {
				t.Fatalf("P4: Run(%q, %d, %v, %d): %d", kernel, view, in, fuel, e)
			}
			seen[view] = r.Seen
		}
		if seen[api.Base] != seen[api.Line] || seen[api.Base] != timeless(seen[api.Time]) {
			t.Fatalf("P10: %q, %v: %q by Base, %q by Time, %q by Line", kernel, in, seen[api.Base], seen[api.Time], seen[api.Line])
		}
		for view := api.Line; view < api.MaxView; view++ {
			if seen[view+1] != halved(seen[view]) {
				t.Fatalf("P10: %q, %v: %q in the view %d, %q in the next one", kernel, in, seen[view], view, seen[view+1])
			}
		}
	}
}

// checkFollows looks whether all that follows of a kernel is so, and tells in how
// many views it is quiet.
func checkFollows(t *testing.T, m *maker, kernel string) int {
	t.Helper()
	var quiet [api.MaxView + 1]bool
	views := 0
	for view := range quiet {
		quiet[view] = isQuiet(t, kernel, view)
		if quiet[view] {
			views++
			checkPublic(t, kernel, view)
		}
	}
	if quiet[api.Base] != quiet[api.Line] || quiet[api.Time] && !quiet[api.Base] {
		t.Fatalf("P10: %q is quiet by view: %v", kernel, quiet)
	}
	for view := api.Line; view < api.MaxView; view++ {
		if quiet[view] && !quiet[view+1] {
			t.Fatalf("P10: %q is quiet by view: %v", kernel, quiet)
		}
	}
	if views > 0 {
		checkPaths(t, m, kernel)
	}
	return views
}

// checkPublic looks whether a quiet kernel stays so if a secret becomes public.
func checkPublic(t *testing.T, kernel string, view int) {
	t.Helper()
	for at := range strings.IndexByte(kernel, ':') {
		if kernel[at] == 's' {
			open := kernel[:at] + "p" + kernel[at+1:]
			if !isQuiet(t, open, view) {
				t.Fatalf("P10: %q is quiet in the view %d, %q is not", kernel, view, open)
			}
		}
	}
}

// checkPaths looks whether the code of a quiet kernel goes over the same lines for
// inputs that are alike.
func checkPaths(t *testing.T, m *maker, kernel string) {
	t.Helper()
	code := codeOf(t, kernel)
	m.shape, _ = shapeOf(kernel)
	for range 8 {
		x, y := m.alikeInputs(kernel)
		p, e := leak.Path(code, x, 2*enough+2)
		q, f := leak.Path(code, y, 2*enough+2)
		if e != api.OK || f != api.OK || !slices.Equal(p, q) {
			t.Fatalf("P10: %q is quiet, its code %q goes %v with %v, and %v with %v (%d, %d)", kernel, code, p, x, q, y, e, f)
		}
	}
}

func TestFollows(t *testing.T) {
	m := &maker{Rand: rand.New(rand.NewSource(52))}
	for _, kernel := range []string{
		"1s/:", "1s/:?a()()", "2s/pppp:laa", "2s/ppp:laa", "3s/pppppppp:laa", "5s/pppppppppppppppp:laa",
		"2ssp/:=cc|1=aa/c", "1sp/:=ba^a?b(=b1+1)()", "3sp/:=aa|1=bb%a", "3s/:=aa/0?a()()",
		"1ps/:?a(=b1/0)(lb0)?b()()", "2pss/:?a(?a(=bb&0)(=bb+c))(=bb-b)?b(=aa+1)(=aa-1)",
		"2pps/sp:?a(s0a?b(lb0)(la1))(?b(s1b)(sb1=bb^b))=ca-c?c()()",
		widest + "=aa|1=bb/a", widest + "=aa&7=aa+8lbasab", halfPublic + "?b()()la1?a(lc2?h()(lf3))(=dd|1=ee/d)",
		sums("8ppp/ssssssssss:", "+", "0123456789", "5382960174", ""),
	} {
		checkFollows(t, m, kernel)
	}
}

func TestFollowsOfMadeKernels(t *testing.T) {
	m := &maker{Rand: rand.New(rand.NewSource(53))}
	some := 0
	for range 2000 {
		views := checkFollows(t, m, m.small(30))
		if views > 0 && views < 9 {
			some++
		}
	}
	for range 200 {
		checkFollows(t, m, m.great())
	}
	if some < 100 {
		t.Errorf("only %d kernels are quiet in some views and in others not", some)
	}
}
