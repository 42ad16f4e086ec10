package leak_test

import (
	"math"
	"math/rand"
	"slices"
	"strings"
	"testing"

	"leak/api"
	"leak/leak"
)

const countDown = "2s/:za03=aa-1j00h"

// run is a run of a code as it must be. It takes as many steps as its path has
// lines.
type run struct {
	code  string
	view  int
	in    []int
	fuel  int
	tag   int
	seen  string
	state []int
	path  []int
}

func checkRuns(t *testing.T, runs []run) {
	t.Helper()
	for _, c := range runs {
		want := api.Result{Tag: c.tag, Steps: len(c.path), Seen: c.seen, State: c.state}
		r, e := leak.Exec(c.code, c.view, c.in, c.fuel)
		if e != api.OK || !equal(r, want) {
			t.Errorf("P6: Exec(%.40q, %d, %v, %d) = %v, %d, want %v", c.code, c.view, c.in, c.fuel, r, e, want)
		}
		path, e := leak.Path(c.code, c.in, c.fuel)
		if e != api.OK || !slices.Equal(path, c.path) {
			t.Errorf("P6: Path(%.40q, %v, %d) = %v, %d, want %v", c.code, c.in, c.fuel, path, e, c.path)
		}
	}
}

func TestExecExamples(t *testing.T) {
	checkRuns(t, []run{
		{countDown, 0, []int{1}, 9, api.Halt, "tf", []int{0}, []int{0, 1, 2, 0, 3}},
		{countDown, 0, []int{1}, 2, api.Fuel, "t", []int{0}, []int{0, 1}},
	})
}

func TestExecEachLine(t *testing.T) {
	checkRuns(t, []run{
		{"2pp/:=ab-1h", 0, []int{1, 0}, 9, api.Halt, "", []int{3, 0}, []int{0, 1}},
		{"2pp/:=ab/ah", 0, []int{2, 3}, 9, api.Halt, "v", []int{1, 3}, []int{0, 1}},
		{"2pp/:=ab%ah", 0, []int{0, 3}, 9, api.Trap, "x", []int{0, 3}, []int{0}},
		{"2p/ps:laah", 0, []int{1, 0, 2}, 9, api.Halt, "m01", []int{2, 0, 2}, []int{0, 1}},
		{"2p/ps:la6h", 0, []int{1, 0, 2}, 9, api.Trap, "m02o", []int{1, 0, 2}, []int{0}},
		{"2p/ps:s1ah", 0, []int{3, 0, 2}, 9, api.Halt, "m01", []int{3, 0, 3}, []int{0, 1}},
		{"2p/ps:sa1h", 0, []int{3, 0, 2}, 9, api.Trap, "m03o", []int{3, 0, 2}, []int{0}},
		{"1p/:za02hh", 0, []int{0}, 9, api.Halt, "f", []int{0}, []int{0, 2}},
		{"1p/:za02hh", 0, []int{1}, 9, api.Halt, "t", []int{1}, []int{0, 1}},
		{"1p/:z202hh", 0, []int{1}, 9, api.Halt, "f", []int{1}, []int{0, 2}},
		{"1p/:z302hh", 0, []int{0}, 9, api.Halt, "t", []int{0}, []int{0, 1}},
		{"1p/:za01h", 0, []int{0}, 9, api.Halt, "f", []int{0}, []int{0, 1}},
		{"1p/:j02hh", 0, []int{0}, 9, api.Halt, "", []int{0}, []int{0, 2}},
		{"1p/:j02hj01", 0, []int{0}, 9, api.Halt, "", []int{0}, []int{0, 2, 1}},
		{"1p/:h", 0, []int{1}, 9, api.Halt, "", []int{1}, []int{0}},
		{"1p/:hh=aa/0j00", 0, []int{1}, 9, api.Halt, "", []int{1}, []int{0}},
		// Numbers of lines to the base 16, with each kind of digit, and lines behind 255.
		{"1p/:j1f" + strings.Repeat("h", 31), 0, []int{0}, 9, api.Halt, "", []int{0}, []int{0, 31}},
		{"1p/:z0a9" + strings.Repeat("h", 200), 0, []int{0}, 9, api.Halt, "f", []int{0}, []int{0, 169}},
		{"1p/:jff" + strings.Repeat("h", 254) + "z000=aa+1h", 0, []int{0}, 9, api.Fuel, "ffff", []int{0}, []int{0, 255, 0, 255, 0, 255, 0, 255, 0}},
		{"1p/:jff" + strings.Repeat("h", 254) + "z100=aa+1h", 0, []int{0}, 9, api.Halt, "t", []int{1}, []int{0, 255, 256, 257}},
	})
}

func TestExecEachView(t *testing.T) {
	const code = "5pp/ssssssssssssssss:laas3b=ab/b=ab%5la1h"
	in := append([]int{13, 9}, make([]int, 16)...)
	state := append([]int{0, 9, 0, 0, 0, 9}, make([]int, 12)...)
	path := []int{0, 1, 2, 3, 4, 5}
	for view, seen := range []string{
		"m0dm03vvm01", "m0dm03v44v43m01", "m0dm03vvm01", "m06m01vvm00", "m03m00vvm00", "m01m00vvm00", "m00m00vvm00", "m00m00vvm00", "m00m00vvm00",
	} {
		checkRuns(t, []run{{code, view, in, 9, api.Halt, seen, state, path}})
	}
	out := append([]int{31, 0}, make([]int, 16)...)
	for view, seen := range []string{"m1fo", "m1fo", "m1fo", "m0fo", "m07o", "m03o", "m01o", "m00o", "m00o"} {
		checkRuns(t, []run{{code, view, out, 9, api.Trap, seen, out, path[:1]}})
	}
	for view, seen := range []string{"x", "x50", "x", "x", "x", "x", "x", "x", "x"} {
		checkRuns(t, []run{{"5pp/:=aa/bh", view, []int{31, 0}, 9, api.Trap, seen, []int{31, 0}, path[:1]}})
	}
}

func TestExecFuel(t *testing.T) {
	all := make([]int, api.MaxFuel)
	checkRuns(t, []run{
		// h is a step: the fuel that ends just before it does not let the run halt.
		{"1p/:h", 0, []int{1}, 0, api.Fuel, "", []int{1}, nil},
		{"1p/:h", 0, []int{1}, 1, api.Halt, "", []int{1}, []int{0}},
		{countDown, 0, []int{1}, 4, api.Fuel, "tf", []int{0}, []int{0, 1, 2, 0}},
		{countDown, 0, []int{1}, 5, api.Halt, "tf", []int{0}, []int{0, 1, 2, 0, 3}},
		// j is a step.
		{countDown, 0, []int{1}, 3, api.Fuel, "t", []int{0}, []int{0, 1, 2}},
		// So is what traps.
		{"1p/:j01=aa/0h", 0, []int{1}, 1, api.Fuel, "", []int{1}, []int{0}},
		{"1p/:j01=aa/0h", 0, []int{1}, 2, api.Trap, "x", []int{1}, []int{0, 1}},
		{"1p/:j01la0h", 0, []int{1}, 1, api.Fuel, "", []int{1}, []int{0}},
		{"1p/:j01la0h", 0, []int{1}, 2, api.Trap, "m00o", []int{1}, []int{0, 1}},
		// A run that would never end.
		{"1p/:j00", 0, []int{1}, api.MaxFuel, api.Fuel, "", []int{1}, all},
		{"1p/:z000h", 8, []int{1}, api.MaxFuel, api.Fuel, strings.Repeat("f", api.MaxFuel), []int{1}, all},
	})
}

func TestExecMadeCodes(t *testing.T) {
	m := maker{Rand: rand.New(rand.NewSource(14))}
	var tags [4]int
	for i := 0; i < 40000; i++ {
		code := m.code()
		in := m.input()
		view := m.Intn(api.MaxView + 1)
		fuel := []int{m.Intn(8), m.Intn(60), 500}[m.Intn(3)]
		want, wantPath := execByText(code, view, in, fuel)
		r, e := leak.Exec(code, view, in, fuel)
		if e != api.OK || !equal(r, want) {
			t.Fatalf("P6: Exec(%q, %d, %v, %d) = %v, %d, want %v", code, view, in, fuel, r, e, want)
		}
		path, e := leak.Path(code, in, fuel)
		if e != api.OK || !slices.Equal(path, wantPath) {
			t.Fatalf("P6: Path(%q, %v, %d) = %v, %d, want %v", code, in, fuel, path, e, wantPath)
		}
		tags[r.Tag]++
	}
	for _, tag := range []int{api.Halt, api.Trap, api.Fuel} {
		if tags[tag] < 1000 {
			t.Errorf("only %d runs ended with the tag %d", tags[tag], tag)
		}
	}
}

// TestExecErrorsInOrder makes every choice of right and wrong arguments: the
// error named first is the answer, and nothing comes with it.
func TestExecErrorsInOrder(t *testing.T) {
	type text struct {
		code string
		e    api.Errno
	}
	const code = "2ps/p:=aa+bh"
	texts := []text{{code, api.OK}, {code + strings.Repeat("h", 1000), api.ErrLong}, {code + "x", api.ErrForm}, {"2ps/p:", api.ErrForm}, {"", api.ErrForm}, {"2ps/p:=aa+b", api.ErrJump}, {"2ps/p:j01", api.ErrJump}}
	views := []int{0, 1, 2, 8, -1, 9, math.MaxInt, math.MinInt}
	inputs := [][]int{{0, 3, 1}, {3, 3, 3}, nil, {}, {0, 3}, {0, 3, 1, 0}, {4, 3, 1}, {0, 3, 4}, {-1, 3, 1}, {0, 0, -1}, {0, 0, math.MaxInt}, {math.MinInt, 0, 0}}
	fuels := []int{1, 2, api.MaxFuel, -1, api.MaxFuel + 1, math.MaxInt, math.MinInt}
	for _, k := range texts {
		for i, in := range inputs {
			for f, fuel := range fuels {
				want := k.e
				if want == api.OK && i > 1 {
					want = api.ErrInput
				} else if want == api.OK && f > 2 {
					want = api.ErrFuel
				}
				path, e := leak.Path(k.code, in, fuel)
				if e != want || (e == api.OK) != (len(path) > 0) {
					t.Errorf("P6: Path(%.20q, %v, %d) = %v, %d, want %d", k.code, in, fuel, path, e, want)
				}
				for v, view := range views {
					want := want
					if k.e == api.OK && v > 3 {
						want = api.ErrView
					}
					r, e := leak.Exec(k.code, view, in, fuel)
					if e != want || (e == api.OK) == empty(r) {
						t.Errorf("P6: Exec(%.20q, %d, %v, %d) = %v, %d, want %d", k.code, view, in, fuel, r, e, want)
					}
				}
			}
		}
	}
}

// TestAnyArgumentsOfCodes: whatever is handed over, the calls answer.
func TestAnyArgumentsOfCodes(t *testing.T) {
	m := maker{Rand: rand.New(rand.NewSource(15))}
	numbers := []int{0, 1, 2, 3, 8, 9, 255, 256, -1, -2, api.MaxFuel, api.MaxFuel + 1, math.MaxInt, math.MinInt}
	for i := 0; i < 30000; i++ {
		text := make([]byte, m.Intn(1010))
		m.Read(text)
		code := string(text)
		switch m.Intn(4) {
		case 0:
			code = m.code()
		case 1:
			code = m.code() + code
		case 2:
			code = m.kernel()
		}
		in := make([]int, m.Intn(30))
		for j := range in {
			in[j] = numbers[m.Intn(len(numbers))]
		}
		if m.Intn(2) == 0 {
			in = m.input()
		}
		fuel := numbers[m.Intn(len(numbers))]
		e, at := leak.CheckCode(code)
		if e < api.OK || e > api.ErrJump || (e == api.OK || e == api.ErrLong) && at != 0 || at < 0 || at > len(code) {
			t.Fatalf("P1: CheckCode(%q) = %d, %d", code, e, at)
		}
		r, re := leak.Exec(code, numbers[m.Intn(len(numbers))], in, fuel)
		if e != api.OK && re != e || re != api.OK && !empty(r) {
			t.Fatalf("P1: Exec(%q, .., %v, ..) = %v, %d", code, in, r, re)
		}
		path, pe := leak.Path(code, in, fuel)
		if e != api.OK && pe != e || pe != api.OK && len(path) > 0 {
			t.Fatalf("P1: Path(%q, %v, %d) = %v, %d", code, in, fuel, path, pe)
		}
	}
}

// TestListsOfCodes: what is handed in stays as it is with its spare room, and
// what comes out is the caller's alone.
func TestListsOfCodes(t *testing.T) {
	m := maker{Rand: rand.New(rand.NewSource(16))}
	var before [][]int // earlier answers, their spare room with them
	spoil := func(l []int) {
		l = l[:cap(l)]
		for i := range l {
			l[i] = -100
		}
		before = append(before, l)
	}
	for i := 0; i < 3000; i++ {
		code := m.code()
		in := m.input()
		room := append(slices.Clone(in), -7, -8, -9)
		kept := slices.Clone(room)
		want, wantPath := execByText(code, api.Base, in, 200)
		for again := 0; again < 2; again++ {
			r, _ := leak.Exec(code, api.Base, room[:len(in)], 200)
			path, _ := leak.Path(code, room[:len(in)], 200)
			if !slices.Equal(room, kept) {
				t.Fatalf("P2: Exec(%q, ..) or Path wrote into what it was handed", code)
			}
			for j := range room {
				room[j] = -5
			}
			if !equal(r, want) || !slices.Equal(path, wantPath) {
				t.Fatalf("P2: what Exec(%q, ..) or Path answered hangs on more than was handed over", code)
			}
			copy(room, kept)
			spoil(r.State)
			if !slices.Equal(path, wantPath) {
				t.Fatalf("P2: what Exec(%q, ..) and Path answered shares memory", code)
			}
			spoil(path)
			if !slices.Equal(room, kept) {
				t.Fatalf("P2: what Exec(%q, ..) or Path answered shares memory with what it was handed", code)
			}
		}
		for _, l := range before[len(before)-4:] {
			if slices.IndexFunc(l, func(n int) bool { return n != -100 }) >= 0 {
				t.Fatalf("P2: Exec(%q, ..) or Path wrote into an earlier answer", code)
			}
		}
	}
}
