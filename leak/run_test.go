package leak_test

import (
	"math"
	"math/rand"
	"slices"
	"strings"
	"testing"

	"leak/api"
	"leak/leak"
)

func equal(a, b api.Result) bool {
	return a.Tag == b.Tag && a.Steps == b.Steps && a.Seen == b.Seen && slices.Equal(a.State, b.State)
}

func empty(r api.Result) bool {
	return r.Tag == 0 && r.Steps == 0 && r.Seen == "" && len(r.State) == 0
}

func TestRunExamples(t *testing.T) {
	const table = "2sp/ppp:lab?a(s0b)()"
	const divide = "3ss/:=aa/b=bb%2"
	const down = "2s/:!a(=aa-1)"
	for _, c := range []struct {
		kernel string
		view   int
		in     []int
		fuel   int
		want   api.Result
	}{
		{table, 0, []int{1, 2, 0, 0, 3}, 100, api.Result{Tag: api.Halt, Steps: 3, Seen: "m02tm00", State: []int{3, 2, 2, 0, 3}}},
		{table, 3, []int{1, 2, 0, 0, 3}, 100, api.Result{Tag: api.Halt, Steps: 3, Seen: "m01tm00", State: []int{3, 2, 2, 0, 3}}},
		{table, 0, []int{1, 2, 0, 0, 3}, 2, api.Result{Tag: api.Fuel, Steps: 2, Seen: "m02t", State: []int{3, 2, 0, 0, 3}}},
		{table, 0, []int{1, 3, 0, 0, 3}, 100, api.Result{Tag: api.Trap, Steps: 1, Seen: "m03o", State: []int{1, 3, 0, 0, 3}}},
		{divide, 1, []int{5, 2}, 9, api.Result{Tag: api.Halt, Steps: 2, Seen: "v32v22", State: []int{2, 0}}},
		{divide, 0, []int{5, 0}, 9, api.Result{Tag: api.Trap, Steps: 1, Seen: "x", State: []int{5, 0}}},
		{down, 0, []int{2}, 9, api.Result{Tag: api.Halt, Steps: 5, Seen: "ttf", State: []int{0}}},
		{down, 0, []int{2}, 5, api.Result{Tag: api.Halt, Steps: 5, Seen: "ttf", State: []int{0}}},
		{down, 0, []int{2}, 4, api.Result{Tag: api.Fuel, Steps: 4, Seen: "tt", State: []int{0}}},
	} {
		r, e := leak.Run(c.kernel, c.view, c.in, c.fuel)
		if e != api.OK || !equal(r, c.want) {
			t.Errorf("P4: Run(%q, %d, %v, %d) = %v, %d, want %v", c.kernel, c.view, c.in, c.fuel, r, e, c.want)
		}
	}
}

func TestRunEdges(t *testing.T) {
	words := func(n int) []int { return make([]int, n) }
	for _, c := range []struct {
		kernel string
		view   int
		in     []int
		fuel   int
		want   api.Result
	}{
		// Halt comes ahead of Fuel, and Fuel ahead of the step that would trap.
		{"1p/:", 0, []int{1}, 0, api.Result{Tag: api.Halt, State: []int{1}}},
		{"1p/:=aa/0", 0, []int{1}, 0, api.Result{Tag: api.Fuel, State: []int{1}}},
		{"1p/:=aa/0", 0, []int{1}, 1, api.Result{Tag: api.Trap, Steps: 1, Seen: "x", State: []int{1}}},
		{"1p/:=aa+1", 0, []int{1}, 1, api.Result{Tag: api.Halt, Steps: 1, State: []int{0}}},
		// The step that ends a loop is its test.
		{"1p/:!0()", 0, []int{0}, 0, api.Result{Tag: api.Fuel, State: []int{0}}},
		{"1p/:!0()", 0, []int{0}, 1, api.Result{Tag: api.Halt, Steps: 1, Seen: "f", State: []int{0}}},
		{"1p/:!1()", 0, []int{0}, api.MaxFuel, api.Result{Tag: api.Fuel, Steps: api.MaxFuel, Seen: strings.Repeat("t", api.MaxFuel), State: []int{0}}},
		// The last word is there, the one behind it is not, in each view.
		{"4p/" + strings.Repeat("p", 15) + ":laa", 0, append([]int{14}, words(15)...), 9, api.Result{Tag: api.Halt, Steps: 1, Seen: "m0e", State: words(16)}},
		{"4p/" + strings.Repeat("p", 15) + ":laa", 2, append([]int{15}, words(15)...), 9, api.Result{Tag: api.Trap, Steps: 1, Seen: "m0fo", State: append([]int{15}, words(15)...)}},
		{"5p/" + strings.Repeat("s", 16) + ":saa", 5, append([]int{15}, words(16)...), 9, api.Result{Tag: api.Halt, Steps: 1, Seen: "m01", State: append(append([]int{15}, words(15)...), 15)}},
		{"5p/" + strings.Repeat("s", 16) + ":saa", 6, append([]int{16}, words(16)...), 9, api.Result{Tag: api.Trap, Steps: 1, Seen: "m01o", State: append([]int{16}, words(16)...)}},
		{"8p/:s91", 7, []int{0}, 9, api.Result{Tag: api.Trap, Steps: 1, Seen: "m00o", State: []int{0}}},
		// Of a load the word is found before the variable changes.
		{"2p/pp:laa", 1, []int{1, 0, 3}, 9, api.Result{Tag: api.Halt, Steps: 1, Seen: "m01", State: []int{3, 0, 3}}},
		// Bits of both are seen in the view Time alone.
		{"8pp/:=aa/b", 1, []int{128, 255}, 9, api.Result{Tag: api.Halt, Steps: 1, Seen: "v88", State: []int{0, 255}}},
		{"8pp/:=aa%b", 2, []int{128, 255}, 9, api.Result{Tag: api.Halt, Steps: 1, Seen: "v", State: []int{128, 255}}},
		{"8pp/:=aa%b", 1, []int{0, 1}, 9, api.Result{Tag: api.Halt, Steps: 1, Seen: "v01", State: []int{0, 1}}},
		{"8pp/:=aa/b", 1, []int{127, 0}, 9, api.Result{Tag: api.Trap, Steps: 1, Seen: "x70", State: []int{127, 0}}},
		// Digits are modulo N, as numbers of words and in tests too.
		{"1p/pp:la2", 0, []int{0, 1, 0}, 9, api.Result{Tag: api.Halt, Steps: 1, Seen: "m00", State: []int{1, 1, 0}}},
		{"1p/pp:s39", 0, []int{0, 0, 0}, 9, api.Result{Tag: api.Halt, Steps: 1, Seen: "m01", State: []int{0, 0, 1}}},
		{"3p/:?8(=a1+0)(=a2+0)", 0, []int{0}, 9, api.Result{Tag: api.Halt, Steps: 2, Seen: "f", State: []int{2}}},
		// A trap inside ends the whole run.
		{"2p/:?1(!1(=aa/0=aa+1))()=aa+2", 0, []int{1}, 9, api.Result{Tag: api.Trap, Steps: 3, Seen: "ttx", State: []int{1}}},
	} {
		r, e := leak.Run(c.kernel, c.view, c.in, c.fuel)
		if e != api.OK || !equal(r, c.want) {
			t.Errorf("P4: Run(%q, %d, %v, %d) = %v, %d, want %v", c.kernel, c.view, c.in, c.fuel, r, e, c.want)
		}
	}
}

func TestRunMadeKernels(t *testing.T) {
	m := maker{Rand: rand.New(rand.NewSource(4))}
	var tags [4]int
	for i := 0; i < 40000; i++ {
		kernel := m.kernel()
		in := m.input()
		view := m.Intn(api.MaxView + 1)
		fuel := []int{m.Intn(8), m.Intn(60), 500}[m.Intn(3)]
		r, e := leak.Run(kernel, view, in, fuel)
		want := runByText(kernel, view, in, fuel)
		if e != api.OK || !equal(r, want) {
			t.Fatalf("P4: Run(%q, %d, %v, %d) = %v, %d, want %v", kernel, view, in, fuel, r, e, want)
		}
		tags[r.Tag]++
	}
	for _, tag := range []int{api.Halt, api.Trap, api.Fuel} {
		if tags[tag] < 1000 {
			t.Errorf("only %d runs ended with the tag %d", tags[tag], tag)
		}
	}
}

// TestRunErrorsInOrder makes every choice of right and wrong arguments: the
// error named first is the answer, and nothing comes with it.
func TestRunErrorsInOrder(t *testing.T) {
	type text struct {
		kernel string
		e      api.Errno
	}
	const kernel = "2ps/p:=aa+b"
	texts := []text{{kernel, api.OK}, {kernel + strings.Repeat("=aa+b", 60), api.ErrLong}, {kernel + "x", api.ErrForm}, {"", api.ErrForm}}
	views := []int{0, 1, 2, 8, -1, 9, math.MaxInt, math.MinInt}
	inputs := [][]int{{0, 3, 1}, {3, 3, 3}, nil, {}, {0, 3}, {0, 3, 1, 0}, {4, 3, 1}, {0, 3, 4}, {-1, 3, 1}, {0, 0, -1}, {0, 0, math.MaxInt}, {math.MinInt, 0, 0}}
	fuels := []int{0, 1, api.MaxFuel, -1, api.MaxFuel + 1, math.MaxInt, math.MinInt}
	for _, k := range texts {
		for v, view := range views {
			for i, in := range inputs {
				for f, fuel := range fuels {
					want := k.e
					if want == api.OK && v > 3 {
						want = api.ErrView
					} else if want == api.OK && i > 1 {
						want = api.ErrInput
					} else if want == api.OK && f > 2 {
						want = api.ErrFuel
					}
					r, e := leak.Run(k.kernel, view, in, fuel)
					if e != want {
						t.Errorf("P4: Run(%.20q, %d, %v, %d): error %d, want %d", k.kernel, view, in, fuel, e, want)
					}
					if e != api.OK && !empty(r) {
						t.Errorf("P1: Run(%.20q, %d, %v, %d) answers %v with the error %d", k.kernel, view, in, fuel, r, e)
					}
					if e == api.OK && empty(r) {
						t.Errorf("P4: Run(%.20q, %d, %v, %d) answers nothing", k.kernel, view, in, fuel)
					}
				}
			}
		}
	}
}

// TestAnyArguments: whatever is handed over, the calls answer.
func TestAnyArguments(t *testing.T) {
	m := maker{Rand: rand.New(rand.NewSource(5))}
	numbers := []int{0, 1, 2, 3, 8, 9, 255, 256, -1, -2, api.MaxFuel, api.MaxFuel + 1, math.MaxInt, math.MinInt}
	for i := 0; i < 30000; i++ {
		text := make([]byte, m.Intn(320))
		m.Read(text)
		kernel := string(text)
		if m.Intn(2) == 0 {
			kernel = m.kernel() + kernel[:m.Intn(2)*len(kernel)]
		}
		in := make([]int, m.Intn(30))
		for j := range in {
			in[j] = numbers[m.Intn(len(numbers))]
		}
		e, at := leak.Check(kernel)
		if e != api.OK && e != api.ErrLong && e != api.ErrForm || e != api.ErrForm && at != 0 || at < 0 || at > len(kernel) {
			t.Fatalf("P1: Check(%q) = %d, %d", kernel, e, at)
		}
		r, re := leak.Run(kernel, numbers[m.Intn(len(numbers))], in, numbers[m.Intn(len(numbers))])
		if e != api.OK && re != e || re != api.OK && !empty(r) {
			t.Fatalf("P1: Run(%q, .., %v, ..) = %v, %d", kernel, in, r, re)
		}
	}
}

// TestLists: what is handed in stays as it is with its spare room, and what
// comes out is the caller's alone.
func TestLists(t *testing.T) {
	m := maker{Rand: rand.New(rand.NewSource(6))}
	var before []int // an earlier answer, its spare room with it
	for i := 0; i < 3000; i++ {
		kernel := m.kernel()
		in := m.input()
		room := append(slices.Clone(in), -7, -8, -9)
		kept := slices.Clone(room)
		r, e := leak.Run(kernel, api.Base, room[:len(in)], 200)
		if e != api.OK || !slices.Equal(room, kept) {
			t.Fatalf("P2: Run(%q, ..) wrote into what it was handed", kernel)
		}
		for j := range before {
			if before[j] != -100 {
				t.Fatalf("P2: Run(%q, ..) wrote into an earlier answer", kernel)
			}
		}
		want := slices.Clone(r.State)
		room[0] = -5
		if !slices.Equal(r.State, want) {
			t.Fatalf("P2: what Run(%q, ..) answered is what it was handed", kernel)
		}
		room[0] = kept[0]
		before = r.State[:cap(r.State)]
		for j := range before {
			before[j] = -100
		}
		if !slices.Equal(room, kept) {
			t.Fatalf("P2: what Run(%q, ..) answered shares memory with what it was handed", kernel)
		}
		again, e := leak.Run(kernel, api.Base, room[:len(in)], 200)
		if e != api.OK || !equal(again, api.Result{Tag: r.Tag, Steps: r.Steps, Seen: r.Seen, State: want}) {
			t.Fatalf("P2: Run(%q, ..) answers otherwise the second time", kernel)
		}
	}
}
