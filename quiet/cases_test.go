package quiet

import (
	"fmt"
	"slices"
	"testing"

	"leak/api"
	"leak/circuit"
	"leak/machine"
	"leak/syntax"
)

// swap swaps the words with the numbers a and b.
const swap = "lcaldbsadsbc"

// added makes a kernel that adds up four words in f, does some commands, adds them
// up in g, and branches on whether that is not the same.
func added(head, begin, between string) string {
	k := head + begin + "=ff^f=gg^g"
	for i := range 4 {
		k += fmt.Sprintf("le%d=ff+e", i)
	}
	k += between
	for i := range 4 {
		k += fmt.Sprintf("le%d=gg+e", i)
	}
	return k + "=ff^g?f()()"
}

func read(t *testing.T, kernel string) syntax.Program {
	t.Helper()
	k := syntax.ReadKernel(kernel)
	if k.Error != api.OK {
		t.Fatalf("%q is no kernel", kernel)
	}
	return k
}

// TestNext: the cases that are gone over have each input in just one of them,
// wherever they are split.
func TestNext(t *testing.T) {
	for splits := range 1 << 7 {
		const width = 3
		count := [1 << width]int{}
		var c cases
		for looks, more := 0, true; more; looks++ {
			if len(c.bits) < width && splits>>(looks%7)&1 == 1 {
				c.split(bit{word: 1, place: (len(c.bits) + 1) % width})
				continue
			}
			for value := range count {
				word := c.known(1, []int{2, 4, 6})
				if fits(word, value) {
					count[value]++
				}
			}
			if other := c.known(0, []int{2, 4, 6}); !slices.Equal(other, []int{2, 4, 6}) {
				t.Fatalf("bits of another word are known: %v", other)
			}
			more = c.next()
		}
		if slices.Min(count[:]) != 1 || slices.Max(count[:]) != 1 {
			t.Errorf("splits %b: the values come %v times", splits, count)
		}
	}
}

// fits tells whether a value has the bits of a word that are known.
func fits(word []int, value int) bool {
	for i, e := range word {
		if e <= circuit.True && e != value>>i&1 {
			return false
		}
	}
	return true
}

// TestFindSplit: a case is split by a bit on which the number of a word hangs, where
// it hangs on the fewest.
func TestFindSplit(t *testing.T) {
	for _, c := range []struct {
		begin string
		known []bit
		want  bit
		some  bool
	}{
		{"=aa&3=bb&3", nil, bit{word: 0, place: 0}, true},
		{"=aa&3=bb&3", []bit{{word: 0, place: 0}}, bit{word: 0, place: 1}, true},
		{"=aa&3=bb&3", []bit{{word: 0, place: 1, value: 1}, {word: 0, place: 0}}, bit{word: 1, place: 0}, true},
		{"=aa&3=bb&2", []bit{{word: 0, place: 1}, {word: 0, place: 0}}, bit{word: 1, place: 1}, true},
		{"=aa^h=aa&3=bb&3", nil, bit{word: 1, place: 0}, true},
		{"=aa^h=aa&3=b3&3", nil, bit{word: 0, place: 0}, true},
		{"=aa&0=bb&0", nil, bit{}, false},
		{"=aa|1=ah/a=aa&1=bh+a=bb&1", nil, bit{}, false}, // they hang on too many
	} {
		w := newWatcher(read(t, added("8ssssssss/ssss:", c.begin, swap)), 4)
		w.conflicts = 1
		w.watch(&cases{bits: c.known})
		edge := w.findSplit()
		if (edge != circuit.False) != c.some || c.some && w.bitOf(edge) != c.want {
			t.Errorf("%q, %v: found is %d, which is %v", c.begin, c.known, edge, w.bitOf(edge))
		}
	}
}

// checkDecide looks whether decide answers what it must, however many cases it may
// look at.
func checkDecide(t *testing.T, kernel string, view int, want bool) {
	t.Helper()
	k := read(t, kernel)
	for _, most := range []int{mostCases, 5, 0} {
		quiet, x, y := decide(k, view, 1, most)
		if quiet != want {
			t.Fatalf("P9: %q in the view %d, %d cases: %v", kernel, view, most, quiet)
		}
		if !quiet && !isProof(k, view, x, y) {
			t.Fatalf("P9: %q in the view %d, %d cases: %v and %v", kernel, view, most, x, y)
		}
	}
}

// isProof tells whether two lists are inputs that are alike, and of which not the
// same is seen.
func isProof(k syntax.Program, view int, x, y []int) bool {
	if !k.Head.IsInput(x) || !k.Head.IsInput(y) {
		return false
	}
	for i := range x {
		if k.Head.IsPublic(i) && x[i] != y[i] {
			return false
		}
	}
	const enough = 300
	return machine.Run(k, view, x, enough).Seen != machine.Run(k, view, y, enough).Seen
}

// TestDecideByCases: whether it is all looked at as one or in cases, the answer is
// the same.
func TestDecideByCases(t *testing.T) {
	const late = "=aa&3=bb&3=ha=2=gb=3=hh&g" // h is 1 in one case of sixteen
	for _, c := range []struct {
		kernel string
		view   int
		quiet  bool
	}{
		{added("8ssssssss/ssss:", "=aa&3=bb&3", swap), 4, true},
		{added("8ppssssss/ssss:", "=aa&3=bb&3", swap), 0, true},
		{added("8spspspsp/ssps:", "=aa&3=bb&3", swap), 8, true},
		{added("8ssssssss/ssss:", late, swap+"lc1=cc|hs1c"), 4, false},
		{added("8ppssssss/ssss:", late, swap+"lc1=cc|hs1c"), 0, false},
		{added("8ppssssss/ssss:", late, swap+"lc1=cc+hs1c"), 0, true}, // which case it is is public
	} {
		checkDecide(t, c.kernel, c.view, c.quiet)
	}
}

// TestGivenUp: a kernel as above is such that a question is given up while all is
// open, and none when it is known which words are touched.
func TestGivenUp(t *testing.T) {
	k := read(t, added("8ssssssss/ssss:", "=aa&3=bb&3", swap))
	for _, known := range [][]bit{nil, {{place: 0, value: 1}, {place: 1}, {word: 1, place: 0}, {word: 1, place: 1, value: 1}}} {
		w := newWatcher(k, 4)
		w.conflicts = 1
		want := circuit.GivenUp
		if known != nil {
			w.hurry()
			want = circuit.No
		}
		w.watch(&cases{bits: known})
		if w.answer != want {
			t.Errorf("%v are known: the answer is %d, want %d", known, w.answer, want)
		}
	}
}
