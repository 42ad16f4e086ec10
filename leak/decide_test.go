package leak_test

import (
	"math"
	"math/rand"
	"slices"
	"strings"
	"testing"

	"leak/api"
	"leak/leak"
)

// all is what is said of a kernel that is quiet in every view, none of one that is
// in no view.
const (
	all  = "yyyyyyyyy"
	none = "nnnnnnnnn"
)

// A verdict says whether a kernel is quiet, by view: y or n.
type verdict struct {
	kernel string
	says   string
}

func checkVerdicts(t *testing.T, verdicts []verdict) {
	t.Helper()
	for _, v := range verdicts {
		for view := range v.says {
			if isQuiet(t, v.kernel, view) != (v.says[view] == 'y') {
				t.Errorf("P9: Decide(%q, %d), want %c", v.kernel, view, v.says[view])
			}
		}
		if len(v.says) != api.MaxView+1 {
			t.Errorf("%q says too little", v.kernel)
		}
	}
}

func TestDecideExamples(t *testing.T) {
	checkVerdicts(t, []verdict{
		{"2s/pppp:laa", "nnnnyyyyy"},
		{"2ssp/:=cc|1=aa/c", "ynyyyyyyy"},
		{"1sp/:=ba^a?b(=b1+1)()", all},
	})
	if a, x, y, e := leak.Decide("1s/:!0()", 0); a != 0 || len(x) != 0 || len(y) != 0 || e != api.ErrLoop {
		t.Errorf("P9: Decide of a loop = %d, %v, %v, %d", a, x, y, e)
	}
}

func TestDecideBranches(t *testing.T) {
	checkVerdicts(t, []verdict{
		{"1s/:", all},
		{"1s/:?a()()", none},
		{"8s/:?a()()", none},
		{"1p/:?a()()", all},
		{"1s/:?0()()?1()()?9()()", all},
		// The ways of a branch that hangs on what is public.
		{"1ps/:?a(=bb^b)(=bb&0)?b()()", all},
		{"1ps/:?a(=bb^b)()?b()()", none},
		{"1ps/:?a()(=bb^b)?b()()", none},
		{"2pss/:?a(=bb&0)(=cc&0)=bb&c?b()()", all},
		{"2pss/:?a(=bb&0)(=cc&0)=bb|c?b()()", none},
		{"2pss/:?a(?a(=bb&0)(=bb+c))(=bb-b)?b()()", all},
		{"2pss/:?a(=ab+0=a0&a)(=a1+0)?a()()", all},
		// Ways that are never gone.
		{"1s/:?0(?a()())()", all},
		{"1s/:?1()(?a()())", all},
		{"1s/:?1(?a()())()", none},
		{"1ps/:?a(?a()(?b()()))()", all},
		{"1ps/:?a(?a(?b()())())()", none},
		{"2ps/:?a()(?a(?b()())())", all},
		{"2pps/:=ba=0?a(?b(?c()())())(?b()(?c()()))", all},
		{"2pps/:=ba=1?a(?b(?c()())())()", none},
		// The ways are seen alike but for the test itself.
		{"2ps/p:?b(la0)(la0)", none},
		{"2ps/p:?a(la0)(la0)", all},
		// Behind each other, within each other.
		{"1spp/:?b(?c()())(?c()())?c()()=aa&b?a()()", none},
		{"1spp/:?b(?c(?b()())())(?c()(?b()()))", all},
		{"3s/:=aa=5=aa+a=aa&1?a()()", all},
		{"3s/:=aa=5=aa+1=aa&1?a()()", none},
	})
}

// TestDecideOperations: a secret comes through each operation, unless the other
// operand keeps it back.
func TestDecideOperations(t *testing.T) {
	for _, o := range "+-&|^<=UD" {
		for _, width := range "12358" {
			through := string(width) + "ssp/:=ca" + string(o) + "b?c()()"
			checkVerdicts(t, []verdict{{through, none}})
		}
	}
	checkVerdicts(t, []verdict{
		{"3ssp/:=ba|1=ca/b?c()()", "nnnnnnnnn"},
		{"3ssp/:=bb|1=ca%b?c()()", "nnnnnnnnn"},
		{"3sp/:=ba-a?b()()", all},
		{"3sp/:=ba&0?b()()", all},
		{"3sp/:=ba|1?b()()", all},
		{"3sp/:=ba^a?b()()", all},
		{"3sp/:=ba<a?b()()", all},
		{"3sp/:=ba<0?b()()", all},
		{"3sp/:=b7<a?b()()", all},
		{"3sp/:=b6<a?b()()", none},
		{"3sp/:=ba=a?b()()", all},
		{"3sp/:=ba|1=bb=0?b()()", all},
		{"3sp/:=baU3?b()()", all},
		{"3sp/:=baU2?b()()", none},
		{"3sp/:=baD3?b()()", all},
		{"3sp/:=baD2?b()()", none},
		{"3sp/:=baD7?b()()", all},
		{"3sp/:=baU8?b()()", none}, // 8 is 0
		{"3sp/:=aa+a=ba&1?b()()", all},
		{"3sp/:=aa|4=b0Ua?b()()", all},
		{"3sp/:=aa|4=b7Ua?b()()", all},
		{"5sp/:=aa|4=b7Da?b()()", all},
		{"5sp/:=aa|1=b7Da?b()()", none},
		{"8sp/:=ba/1=bb^a?b()()", "ynyyyyyyy"},
		{"8sp/:=ba%1?b()()", "ynyyyyyyy"},
		{"8sp/:=ba%8=bb<8?b()()", "ynyyyyyyy"},
		{"8sp/:=ba/2=aaD1=bb-a?b()()", "ynyyyyyyy"},
		{"8sp/:=ba%4=aa&3=bb-a?b()()", "ynyyyyyyy"},
		{"8sp/:=ba%4=aa&3=bb+a?b()()", none},
	})
}

func TestDecideDivisions(t *testing.T) {
	checkVerdicts(t, []verdict{
		{"3s/:=aa/1", "ynyyyyyyy"},
		{"3s/:=aa|4=aa/1", all},
		{"3s/:=aa|2=aa%1", "ynyyyyyyy"},
		{"3sp/:=bb/a", none},
		{"3sp/:=bb%a", none},
		{"3sp/:=aa|4=bb/a", all},
		{"3sp/:=aa|1=bb/a", "ynyyyyyyy"},
		{"3sp/:=aa|1=bb%a", "ynyyyyyyy"},
		{"3sp/:=a0/b", all},
		{"3sp/:=aa&0=bb/a", all},
		// What is left over is below the divisor, but of how many bits hangs on both.
		{"3sp/:=bb|1=aa%b=aa<b?a()()", "ynyyyyyyy"},
		{"3sp/:=aa|4=aa/4=bb%a", all},
		{"3sp/:=aa|4=aa/3=bb%a", "ynyyyyyyy"},
		{"1s/:=aa/1", "ynyyyyyyy"},
		{"1s/:=a1/1?a()()", all},
	})
}

func TestDecideWords(t *testing.T) {
	checkVerdicts(t, []verdict{
		{"2p/s:la0?a()()", none},
		{"2s/p:la0?a()()", all},
		{"2p/ps:la0?a()()la1", all},
		{"2p/ps:la1?a()()", none},
		{"2sp/p:s0alb0?b()()", none},
		{"2sp/s:s0blb0?b()()", all},
		{"2sp/ss:s0blb1?b()()", none},
		{"2sp/pp:s0as0blb0?b()()", all},
		{"2sp/pp:s0bs0alb0?b()()", none},
		{"2sp/pp:s0as1blb1?b()()", all},
		{"1sp/sp:lbb?b()()", none},
		{"1sp/pp:lbb?b()()", all},
		{"1sp/ss:sb0lbb?b()()", all},
		{"1spp/ss:sb0lbc?b()()", none},
		// Which word is touched is secret: on one line that is not seen.
		{"2s/pppp:laa", "nnnnyyyyy"},
		{"2s/pppp:saa", "nnnnyyyyy"},
		{"2s/ppp:laa", none}, // 3 is no word, whatever the line
		{"2s/pppp:=aa|1laa", "nnnnyyyyy"},
		{"2s/pppp:=aa&1laa", "nnnyyyyyy"},
		{"2s/pppp:=aa&2laa", "nnnnyyyyy"},
		{"3s/pppppppp:=aa&6laa", "nnnnnyyyy"},
		{"3s/pppppppp:=aa|4laa", "nnnnyyyyy"},
		{"4s/pppppppppppppppp:laa", "nnnnnnyyy"},
		{"5s/pppppppppppppppp:laa", none},
		{"1s/pp:laa", "nnnyyyyyy"},
		{"1s/pp:s1as0alaa?0()()", "nnnyyyyyy"},
		// What lies in a word whose number is secret.
		{"2sp/pppp:lba?b()()", none},
		{"2sp/pppp:lba=bb|1?b()()", "nnnnyyyyy"},
		{"2sp/pppp:s01s11s21s31lba?b()()", "nnnnyyyyy"},
		{"2sp/pppp:s01s11s21s31sa2lb0?b()()", "nnnnyyyyy"},
		{"2sp/pppp:s01s11s21s31sa0lb0?b()()", none},
		{"2ssp/pppp:sablca=cc^b?c()()", "nnnnyyyyy"},
		{"2ssp/pppp:sab=aa+1lca=cc^b?c()()", none},
		{"2sp/pppp:lbalaa=aa-b?a()()", "nnnnyyyyy"},
		{"2ssp/pppp:=ba+0lablca?a()()", none},
		{"2ssp/pppp:=ba+0lcalab=aa-c?a()()", "nnnnyyyyy"},
		// A number that is a digit, modulo as many values as there are.
		{"1s/pp:la9?a()()", all},
		{"1s/ps:la9?a()()", none},
		{"1p/ps:s9ala1?a()()", all},
	})
}

func TestDecideTraps(t *testing.T) {
	checkVerdicts(t, []verdict{
		// Traps that hang on no secret keep back what would be seen behind them.
		{"1s/:la0?a()()", all},
		{"1s/:s00?a()()", all},
		{"1p/:=a1/0la0", all},
		{"2s/pp:la3?a()()", all},
		{"3s/:=a1/0?a()()", all},
		{"3s/:=a1%0?a()()", all},
		{"3s/:=aa/0?a()()", "ynyyyyyyy"},
		{"1ps/:=aa/a?b()()", none},
		{"1ps/:?a(=b1/0)(lb0)?b()()", all},
		{"1ps/:?a(=b1/0)(=b1+0)?b()()", all},
		{"1ps/:?a(=b1/0)()?b()()", none},
		{"1ps/:?a()(la1)?b()()", none},
		{"1ps/:?a()(la1)=ba-b=bb&0?b()()", all},
		{"1ps/:?a(la1)()?a(?b()())()", all},
		{"2ps/p:laa?a()()?b()()", none},
		{"2ps/p:sa0la0?a(?b()())()", all},
		{"2ps/p:sa1la0?a(?b()())()", none},
		{"2ps/p:saa?a(?b()())()", all}, // behind it a is 0
		{"2pss/p:=b1/a?a()(?c()())", all},
		// Traps that hang on a secret.
		{"3s/:=a1/a", none},
		{"3s/:=a1%a", none},
		{"2s/p:laa", none},
		{"2s/p:saa", none},
		{"3s/pppp:=aa&3laa", "nnnnyyyyy"},
		{"3s/ppppp:=aa&4laa", "nnnnnyyyy"},
		{"3s/pppp:=aa&4laa", none},
		{"3ps/pppp:=bb&4=ba&b?a(lab)()", none},
		{"8s/p:laa", none},
		{"8sp/:lba", none},
		{"1sp/:lba", "nnnyyyyyy"}, // neither word is there
		{"3sp/:lba", "nnnnnyyyy"},
		{"3sp/:sab", "nnnnnyyyy"},
		{"8sp/:=aa&9lba", "nnnnnnyyy"},
		{"8sp/:=aa&9=aa|8lba", "nnnyyyyyy"},
		{"8sp/:=a0-1lba", all},
	})
}

const widest = "8ssssssss/ssssssssssssssss:"
const halfPublic = "8spspspsp/spspspspspspspsp:"

// sums makes a kernel that adds up words, in two orders, and branches on whether
// that is not the same, behind a last command.
func sums(head, operation, first, second, last string) string {
	k := head + "=aa^a=bb^b"
	for _, w := range first {
		k += "lc" + string(w) + "=aa" + operation + "c"
	}
	for _, w := range second {
		k += "lc" + string(w) + "=bb" + operation + "c"
	}
	return k + last + "=aa^b?a()()"
}

// sorts makes commands that bring the greater of two variables to the front.
func sorts(pairs ...string) string {
	k := ""
	for _, p := range pairs {
		x, y := p[:1], p[1:]
		k += "=g" + x + "<" + y + "=g0-g=h" + x + "^" + y + "=hh&g=" + y + y + "^h=" + x + x + "^h"
	}
	return k
}

// TestDecideWide: kernels with far too many inputs to try them all.
func TestDecideWide(t *testing.T) {
	const times = "=dc&1=d0-d=dd&b=ee+d=bbU1=ccD1"
	checkVerdicts(t, []verdict{
		{widest, all},
		{widest + "?h()()", none},
		{widest + "=aa|1=bb/a", "ynyyyyyyy"},
		{widest + "=aa&7=aa+8lbasab", "nnnnnyyyy"},
		{widest + "la0lb1=aa^b=bb^a", all},
		{widest + strings.Repeat("=aa^b=ba^b=aa^b", 3), all},
		{halfPublic + "?b()()?d()()?f()()?h()()la1?a()()la9?a()()", all},
		{halfPublic + "?b()()?d()()?f()()?h()()la1?a()()la8?a()()", none},
		{halfPublic + "=bb&7=bb|1lcb?c()()", all},
		{halfPublic + "=bb&7lcb?c()()", none},
		// One value of many is seen.
		{widest + "=aa=3=bb=7=aa&b=cc=9=aa&c=dd=8=aa&d=ee=7=aa&e=ff=6=aa&f=gg=5=aa&g=hh=4=aa&h?a()()", none},
		{"8ssss/:=da+b=dd+c=d0-d=d9<d=ca^b=cc=6=dd&c=bb=9=dd&b?d()()", none},
		{"8ss/:=aa-b=aa=7=bb=9=aa&b=aaU7?a()()", none},
		{"8ss/:=aa-b=aa=7=bb=9=aa&b=aaU8?a()()", all},
		// The same by two ways.
		{sums("8ppp/ssssssssss:", "+", "0123456789", "5382960174", ""), all},
		{sums("8ppp/ssssssssss:", "+", "0123456789", "5382960174", "=aa+1"), all},
		{sums("8ppp/ssssssssss:", "+", "0123456789", "5382960174", "=aa+c"), none},
		{sums("8ppp/ssssssssss:", "+", "0123456789", "5382960171", ""), none},
		{sums("8ppp/ssssssssss:", "^", "0123456789", "5382960174", ""), all},
		{sums("8ppp/ssssssssss:", "^", "0123456789", "5382960171", ""), none},
		{sums("8ppp/ssss:", "-", "0123", "2031", "=aaU3=cb+b=bc+c=bb+b"), all},
		{"8sss/:=ca&b=aa|b=aa+c=aa-b=aa-c?0()()", all},
		{"8ssss/:=ca&b=da|b=cc+d=da+b=cc^d?c()()", all},
		{"8ssss/:=ca^b=da&b=ddU1=cc+d=da+b=cc^d?c()()", all},
		{"8ssssssss/:" + sorts("ab", "cd", "ac", "bd", "bc") + "=ea<b=fb<c=ee|f=fc<d=ee|f?e()()", all},
		{"8ssssssss/:" + sorts("ab", "cd", "ac", "bd") + "=ea<b=fb<c=ee|f=fc<d=ee|f?e()()", none},
		{"8sssss/:=bb|1=ca/b=ea%b" + strings.Repeat(times, 8) + "=ee^a?e()()", "ynyyyyyyy"},
		{"8sssss/:=bb|1=ca/b=ea%b" + strings.Repeat(times, 7) + "=ee^a?e()()", none},
	})
}

// TestDecideHard: kernels whose questions take long. One view is enough.
func TestDecideHard(t *testing.T) {
	const swap = "lcaldbsadsbc"
	var before, after, sum, sumAfter string
	for _, w := range "01234567" {
		before += "le" + string(w) + "=ff^e"
		after += "le" + string(w) + "=gg^e"
		sum += "le" + string(w) + "=ff+e"
		sumAfter += "le" + string(w) + "=gg+e"
	}
	for _, c := range []struct {
		kernel string
		view   int
		quiet  bool
	}{
		{"8sppss/:=bb|1=cc|1=da/b=dd/c=ea/c=ee/b=dd^e?d()()", 0, true},
		{"8sssss/:=bb|1=cc|1=da/b=dd/c=ea/c=ee/b=dd^e?d()()", 2, true},
		{"8sppss/:=bb|1=cc|1=da/b=dd/c=ea/c=ee/b=dd^e=dd|a=dd=0?d()()", 0, false},
		{"8sspsss/:=cc|1=aaD1=bbD1=da+b=dd%c=ea%c=fb%c=ee+f=ee%c=dd^e?d()()", 0, true},
		{"8sspsss/:=cc|1=aaD1=bbD1=da+b=dd%c=ea%c=fb%c=ee+f=ee%c=dd^e=aa=9=bb=8=aa&b=dd|a?d()()", 0, false},
		{"8ssssssss/ssssssss:=aa&7=bb&7=ff^f=gg^g" + before + swap + after + "=ff^g?f()()", 8, true},
		{"8ssssssss/ssssssss:=aa&7=bb&7=ff^f=gg^g" + before + swap + "sac" + after + "=ff^g?f()()", 8, false},
		{"8ssssssss/ssssssss:=aa&7=bb&7=ff^f=gg^g" + sum + swap + sumAfter + "=ff^g?f()()", 8, true},
		{"8ppssssss/ssssssss:=aa&7=bb&7=ff^f=gg^g" + sum + swap + sumAfter + "=ff^g?f()()", 0, true},
		{"8ppssssss/ssssssss:=aa&7=bb&7=ff^f=gg^g" + sum + swap + "=aa=3=bb=5=aa&blc1=cc|as1c" + sumAfter + "=ff^g?f()()", 0, false},
		{"4ssssssss/ssssssssssssssss:" + strings.Repeat("sablbascdldcsefsfgsghlga", 8) + "?a()()", 6, false},
		{"4ssssssss/ssssssssssssssss:" + strings.Repeat("sablbascdldcsefsfgsghlga", 8) + "?a()()", 1, false},
	} {
		if isQuiet(t, c.kernel, c.view) != c.quiet {
			t.Errorf("P9: Decide(%q, %d), want %v", c.kernel, c.view, c.quiet)
		}
	}
}

// TestDecideShortKernels: all kernels of two commands over few values agree with
// trying all inputs.
func TestDecideShortKernels(t *testing.T) {
	var sets, touches, seen []string
	for _, v := range []string{"a", "b"} {
		for _, x := range []string{"a", "b", "1"} {
			touches = append(touches, "l"+v+x)
			touches = append(touches, "s"+x+v)
			for _, y := range []string{"a", "b", "1"} {
				for _, o := range operations {
					sets = append(sets, "="+v+x+string(o)+y)
				}
			}
		}
	}
	for _, s := range sets {
		if strings.ContainsAny(s, "/%") {
			seen = append(seen, s)
		}
	}
	seen = append(append(seen, touches...), "?a()()", "?b()()")
	r := rand.New(rand.NewSource(41))
	quiet := 0
	for _, first := range append(sets, touches...) {
		for _, second := range seen {
			kernel := []string{"1sp/s:", "1ps/p:", "1sp/ps:"}[r.Intn(3)] + first + second
			view := r.Intn(4)
			want := quietByTrying(kernel, view)
			if isQuiet(t, kernel, view) != want {
				t.Fatalf("P9: Decide(%q, %d), want %v", kernel, view, want)
			}
			if want {
				quiet++
			}
		}
	}
	if quiet < 1000 {
		t.Errorf("only %d kernels are quiet", quiet)
	}
}

// TestDecideMadeKernels: the answers agree with trying all inputs.
func TestDecideMadeKernels(t *testing.T) {
	m := &maker{Rand: rand.New(rand.NewSource(42))}
	count := [2]int{}
	for range 3000 {
		kernel := m.small(9)
		for range 2 {
			view := m.Intn(api.MaxView + 1)
			want := quietByTrying(kernel, view)
			if isQuiet(t, kernel, view) != want {
				t.Fatalf("P9: Decide(%q, %d), want %v", kernel, view, want)
			}
			if want {
				count[0]++
			} else {
				count[1]++
			}
		}
	}
	if min(count[0], count[1]) < 1000 {
		t.Errorf("%d kernels are quiet, %d are not", count[0], count[1])
	}
}

// TestDecideGreatKernels: where there are too many inputs, none of some pairs may
// speak against Yes.
func TestDecideGreatKernels(t *testing.T) {
	m := &maker{Rand: rand.New(rand.NewSource(43))}
	quiet := 0
	for range 1500 {
		kernel := m.great()
		view := m.Intn(api.MaxView + 1)
		if !isQuiet(t, kernel, view) {
			continue
		}
		quiet++
		for range 20 {
			x, y := m.alikeInputs(kernel)
			if r, q := runByText(kernel, view, x, enough), runByText(kernel, view, y, enough); r.Seen != q.Seen {
				t.Fatalf("P9: Decide(%q, %d) = Yes, but of %v and %v %q and %q are seen", kernel, view, x, y, r.Seen, q.Seen)
			}
		}
	}
	if quiet < 200 {
		t.Errorf("only %d kernels are quiet", quiet)
	}
}

func TestDecideErrorsInOrder(t *testing.T) {
	long := "1s/:!0()" + strings.Repeat("=aa+a", 60)
	for _, c := range []struct {
		kernel string
		view   int
		want   api.Errno
	}{
		{long, 0, api.ErrLong}, {long, -1, api.ErrLong}, {strings.Repeat("x", api.MaxText+1), 9, api.ErrLong},
		{"", 0, api.ErrForm}, {"", -1, api.ErrForm}, {"1s/:!b()", 9, api.ErrForm}, {"1s/:!0(", 0, api.ErrForm}, {"1s/:za00h", 0, api.ErrForm},
		{"1s/:", -1, api.ErrView}, {"1s/:", api.MaxView + 1, api.ErrView}, {"1s/:!0()", -1, api.ErrView}, {"1s/:!0()", 9, api.ErrView},
		{"1s/:", math.MinInt, api.ErrView}, {"1s/:", math.MaxInt, api.ErrView},
		{"1s/:!0()", 0, api.ErrLoop}, {"1s/:!a(=aa-1)", 8, api.ErrLoop}, {"1p/:=aa+1!0()", 1, api.ErrLoop},
		{"1s/:?0(!0())()", 0, api.ErrLoop}, {"1s/:?1()(?0(!0())())", 2, api.ErrLoop}, {"1s/:?a()()!0()", 0, api.ErrLoop},
		{"1s/:=aa/0!0()", 0, api.ErrLoop}, {"1s/:la0?a(!0())()", 3, api.ErrLoop}, {"1s/:!0()?a()()", 0, api.ErrLoop},
	} {
		if a, x, y, e := leak.Decide(c.kernel, c.view); a != 0 || len(x) != 0 || len(y) != 0 || e != c.want {
			t.Errorf("P9: Decide(%.60q, %d) = %d, %v, %v, %d, want %d", c.kernel, c.view, a, x, y, e, c.want)
		}
	}
	for view := range api.MaxView + 1 {
		isQuiet(t, "1s/:?a()()", view)
	}
}

// TestDecideAnyArguments: whatever is handed in, there is an answer, and with an
// error nothing else.
func TestDecideAnyArguments(t *testing.T) {
	r := rand.New(rand.NewSource(44))
	m := &maker{Rand: r}
	for range 5000 {
		text := []byte(m.kernel())
		if r.Intn(2) == 0 {
			text[r.Intn(len(text))] = byte(r.Intn(256))
		}
		kernel := string(text)
		view := r.Intn(13) - 2
		want, _ := leak.Check(kernel)
		if want == api.OK && (view < 0 || view > api.MaxView) {
			want = api.ErrView
		}
		if want == api.OK && strings.Contains(kernel, "!") {
			want = api.ErrLoop
		}
		a, x, y, e := leak.Decide(kernel, view)
		if e != want || e != api.OK && (a != 0 || len(x) != 0 || len(y) != 0) {
			t.Fatalf("P9: Decide(%q, %d) = %d, %v, %v, %d, want %d", kernel, view, a, x, y, e, want)
		}
	}
}

// TestDecideLists: an answer hangs on the arguments alone, and its lists are the
// caller's, with their spare room.
func TestDecideLists(t *testing.T) {
	kernels := []string{"2s/pppp:laa", "3psp/ss:la0?a()()", widest + "=aa=3=bb=7=aa&b?a()()"}
	for _, kernel := range kernels {
		_, x, y, _ := leak.Decide(kernel, api.Base)
		firstX, firstY := slices.Clone(x), slices.Clone(y)
		for i := range x[:cap(x)] {
			x[:cap(x)][i] = -7
		}
		if !slices.Equal(y, firstY) {
			t.Errorf("P2: Decide(%q): the lists share their memory", kernel)
		}
		for i := range y[:cap(y)] {
			y[:cap(y)][i] = -8
		}
		if slices.ContainsFunc(x[:cap(x)], func(value int) bool { return value != -7 }) {
			t.Errorf("P2: Decide(%q): the lists share their memory", kernel)
		}
		_, _, _, _ = leak.Decide(kernels[0], api.Time)
		a, x, y, e := leak.Decide(kernel, api.Base)
		if a != api.No || e != api.OK || !slices.Equal(x, firstX) || !slices.Equal(y, firstY) {
			t.Errorf("P2: Decide(%q) = %d, %v, %v, %d, and %v, %v before", kernel, a, x, y, e, firstX, firstY)
		}
	}
}
