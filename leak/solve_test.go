package leak_test

import (
	"math"
	"math/rand"
	"slices"
	"testing"
	"time"

	"leak/api"
	"leak/leak"
)

// checkSolve holds what Solve answers against whether some values satisfy the
// clauses.
func checkSolve(t *testing.T, n int, list []int, some bool) {
	t.Helper()
	a, values, e := leak.Solve(n, list)
	switch {
	case e != api.OK:
		t.Errorf("P8: Solve(%d, %v): error %d", n, list, e)
	case !some && (a != api.None || len(values) != 0):
		t.Errorf("P8: Solve(%d, %v) = %d, %v, want None and an empty list", n, list, a, values)
	case some && a != api.Found:
		t.Errorf("P8: Solve(%d, %v) = %d, %v, want Found", n, list, a, values)
	case some && !areValues(n, values):
		t.Errorf("P8: Solve(%d, %v): %v are not %d values", n, list, values, n)
	case some && !satisfied(list, values):
		t.Errorf("P8: Solve(%d, %v): %v do not satisfy the clauses", n, list, values)
	}
}

func areValues(n int, l []int) bool {
	return len(l) == n && !slices.ContainsFunc(l, func(x int) bool { return x != 0 && x != 1 })
}

func checkRefused(t *testing.T, n int, list []int) {
	t.Helper()
	a, values, e := leak.Solve(n, list)
	if a != 0 || len(values) != 0 || e != api.ErrClause {
		t.Errorf("P8: Solve(%d, %.60v) = %d, %v, %d, want ErrClause alone", n, list, a, values, e)
	}
}

func many(n int, x int) []int { return slices.Repeat([]int{x}, n) }

func TestSolveExamples(t *testing.T) {
	if a, values, e := leak.Solve(2, []int{1, 2, 0, -1, 0}); a != api.Found || !slices.Equal(values, []int{0, 1}) || e != api.OK {
		t.Errorf("P8: Solve(2, [1 2 0 -1 0]) = %d, %v, %d, want Found, [0 1]", a, values, e)
	}
	checkSolve(t, 1, []int{1, 0, -1, 0}, false)
	checkSolve(t, 0, []int{0}, false)
	checkSolve(t, 0, []int{}, true)
	checkSolve(t, 0, nil, true)
	checkRefused(t, 2, []int{1, 2})
	checkRefused(t, 2, []int{3, 0})
}

// TestSolveBounds takes each bound from both sides.
func TestSolveBounds(t *testing.T) {
	for _, n := range []int{-1, 65, -2, 66, 1000, math.MaxInt, math.MinInt, math.MinInt + 1} {
		checkRefused(t, n, nil)
		checkRefused(t, n, []int{0})
		checkRefused(t, n, []int{1, 0})
	}
	checkSolve(t, 0, nil, true)
	checkSolve(t, 64, nil, true)
	checkSolve(t, 64, []int{64, 0, -1, 0}, true)
	checkSolve(t, 64, []int{64, 0, -1, 0, -64, 0}, false)

	for _, x := range []int{1, -1, 0} {
		checkSolve(t, 1, append(many(998, x), 0), x != 0)
		checkSolve(t, 1, append(many(999, x), 0), x != 0)
		checkRefused(t, 1, append(many(1000, x), 0))
		checkRefused(t, 1, append(many(1001, x), 0))
	}
	checkRefused(t, 1, many(1000000, 0))

	for n := 0; n <= 64; n++ {
		for _, x := range []int{n, -n} {
			checkSolve(t, n, []int{x, 0}, n > 0)
		}
		for _, x := range []int{n + 1, -n - 1, n + 2, -n - 2, 65, -65, 128, math.MaxInt, math.MinInt, math.MinInt + 1, math.MinInt + n} {
			checkRefused(t, n, []int{x, 0})
			checkRefused(t, n, []int{0, x, 0})
			checkRefused(t, n, []int{x})
			checkRefused(t, n, append(many(998, 0), x, 0))
		}
	}

	for _, l := range [][]int{{1}, {-1}, {1, 0, 2}, {0, -2}, {0, 0, 0, 1}, many(1000, 1), append(many(999, 0), -1)} {
		checkRefused(t, 2, l)
	}
}

// TestSolveNoClause: an empty list holds by any values, an empty clause by none,
// wherever it stands.
func TestSolveNoClause(t *testing.T) {
	for n := 0; n <= 64; n++ {
		checkSolve(t, n, nil, true)
		checkSolve(t, n, []int{0}, false)
	}
	checkSolve(t, 3, []int{0, 1, 0}, false)
	checkSolve(t, 3, []int{1, 0, 0}, false)
	checkSolve(t, 3, []int{1, 0, 0, 2, 0}, false)
	checkSolve(t, 3, []int{1, -1, 0, 0}, false)
	checkSolve(t, 64, many(1000, 0), false)
}

// TestSolveOddClauses: a number may stand twice in a clause, and with its contrary.
func TestSolveOddClauses(t *testing.T) {
	checkSolve(t, 1, []int{1, -1, 0}, true)
	checkSolve(t, 1, []int{1, -1, 0, 1, 0, -1, 1, 0}, true)
	checkSolve(t, 1, []int{1, 1, 0, -1, -1, 0}, false)
	checkSolve(t, 2, []int{1, 1, 2, 0, -1, -1, 0, -2, 1, -2, 0}, false)
	checkSolve(t, 2, []int{2, 2, 2, 0, -2, 1, -2, 0}, true)
	checkSolve(t, 3, []int{1, 2, -1, 0, 3, 3, 0, -3, -2, 0}, true)
	checkSolve(t, 1, []int{1, 0, 1, 0, 1, 1, 0}, true)
}

// TestSolveEveryList goes over all lists of a few numbers, those that are no
// clauses with them.
func TestSolveEveryList(t *testing.T) {
	for n, longest := range []int{5, 8, 6, 6} {
		above := 1 // how far the numbers go above n
		if n == 3 {
			above = 0
		}
		list := []int{}
		for len(list) <= longest {
			if isList(n, list) {
				checkSolve(t, n, list, byTrying(n, list))
			} else {
				checkRefused(t, n, list)
			}
			if t.Failed() {
				return
			}
			i := 0
			for i < len(list) && list[i] == n+above {
				list[i] = -n - above
				i++
			}
			if i < len(list) {
				list[i]++
			} else {
				list = append(list, -n-above)
			}
		}
	}
}

// TestSolveEveryTwos goes over all sets of clauses of two numbers over three names.
func TestSolveEveryTwos(t *testing.T) {
	var pairs [][]int
	for x := 1; x <= 3; x++ {
		for y := x + 1; y <= 3; y++ {
			pairs = append(pairs, []int{x, y}, []int{x, -y}, []int{-x, y}, []int{-x, -y})
		}
	}
	for set := 0; set < 1<<len(pairs); set++ {
		var clauses [][]int
		for i, p := range pairs {
			if set>>i&1 == 1 {
				clauses = append(clauses, p)
			}
		}
		list := together(clauses)
		checkSolve(t, 3, list, byTrying(3, list))
	}
}

// TestSolveMadeClauses: clauses made at random, as many as let both answers come.
func TestSolveMadeClauses(t *testing.T) {
	r := rand.New(rand.NewSource(21))
	var counts [3]int
	for i := 0; i < 6000; i++ {
		n := 3 + r.Intn(7)
		list := made(r, n, r.Intn(6*n), 3)
		for k := r.Intn(4); k > 0; k-- {
			list = append(list, made(r, n, 1, 1+r.Intn(2))...)
		}
		some := byTrying(n, list)
		if bySplitting(apart(list)) != some {
			t.Fatalf("the two second workings differ at %d, %v", n, list)
		}
		checkSolve(t, n, list, some)
		a, _, _ := leak.Solve(n, list)
		counts[a]++
	}
	for i := 0; i < 200; i++ {
		n := 20 + r.Intn(39)
		clauses := min(249, n*4+r.Intn(n))
		list := made(r, n, clauses, 3)
		checkSolve(t, n, list, bySplitting(apart(list)))
		a, _, _ := leak.Solve(n, list)
		counts[a]++
	}
	if counts[api.Found] < 500 || counts[api.None] < 500 {
		t.Errorf("answers %v: too few of one kind", counts)
	}
}

// TestSolveHidden: clauses that some values are known to satisfy.
func TestSolveHidden(t *testing.T) {
	r := rand.New(rand.NewSource(22))
	for i := 0; i < 300; i++ {
		n := 3 + r.Intn(62)
		values := make([]int, n)
		for j := range values {
			values[j] = r.Intn(2)
		}
		var list []int
		for len(list) <= 996 {
			c := made(r, n, 1, 3)
			if satisfied(c, values) {
				list = append(list, c...)
			}
		}
		checkSolve(t, n, list, true)
	}
}

// TestSolveHard: clauses that cannot be satisfied by what they say together, which
// no small part of them tells; and beside them some that can. Answers come soon.
func TestSolveHard(t *testing.T) {
	begin := time.Now()
	r := rand.New(rand.NewSource(23))
	check := func(n int, list []int, some bool) {
		t.Helper()
		if n > api.MaxNames || len(list) > api.MaxNumbers {
			t.Fatalf("%d names and %d numbers are too many", n, len(list))
		}
		checkSolve(t, n, list, some)
	}
	for holes := 1; holes <= 7; holes++ {
		n, list := pigeons(holes+1, holes)
		check(n, list, false)
		n, list = pigeons(holes, holes)
		check(n, list, true)
		n, list = pigeons(holes+1, holes)
		check(n, list[holes+1:], true)
	}
	for i := 0; i < 4; i++ {
		n, list := oddCorners(r, 42, 3, true)
		check(n, list, false)
		n, list = oddCorners(r, 42, 3, false)
		check(n, list, true)
		n, list = oddCorners(r, 25, 4, true)
		check(n, list, false)
		n, list = groups(r, 14, true)
		check(n, list, false)
		n, list = groups(r, 16, false)
		check(n, list, true)
	}
	if took := time.Since(begin); took > 2*time.Minute {
		t.Errorf("P1: hard clauses took %v", took)
	}
}

// TestAnyClauses: whatever is handed over, Solve answers.
func TestAnyClauses(t *testing.T) {
	r := rand.New(rand.NewSource(24))
	numbers := []int{0, 0, 0, 1, -1, 2, -2, 63, 64, -64, 65, -65, 1000, math.MaxInt, math.MinInt}
	for i := 0; i < 20000; i++ {
		n := numbers[r.Intn(len(numbers))]
		if r.Intn(2) == 0 {
			n = r.Intn(65)
		}
		list := make([]int, r.Intn(12))
		if r.Intn(50) == 0 {
			list = make([]int, 990+r.Intn(20))
		}
		some := 3 + r.Intn(len(numbers)-2)
		for j := range list {
			list[j] = numbers[r.Intn(some)]
		}
		if isList(n, list) {
			checkSolve(t, n, list, bySplitting(apart(list)))
		} else {
			checkRefused(t, n, list)
		}
	}
}

// TestSolveLists: what is handed in stays as it is with its spare room, and what
// comes out is the caller's alone.
func TestSolveLists(t *testing.T) {
	r := rand.New(rand.NewSource(25))
	var before [][]int // earlier answers, their spare room with them
	for i := 0; i < 2000; i++ {
		n := 3 + r.Intn(62)
		list := made(r, n, r.Intn(4*n)%245, 3)
		if r.Intn(10) == 0 {
			list = append(list, n+1) // no clauses
		}
		room := append(slices.Clone(list), -7, -8, -9)
		kept := slices.Clone(room)
		a, first, e := leak.Solve(n, list)
		want := slices.Clone(first)
		for again := 0; again < 2; again++ {
			b, values, f := leak.Solve(n, room[:len(list)])
			if !slices.Equal(room, kept) {
				t.Fatalf("P2: Solve(%d, %v) wrote into what it was handed", n, list)
			}
			for j := range room {
				room[j] = -5
			}
			if b != a || f != e || !slices.Equal(values, want) {
				t.Fatalf("P2: what Solve(%d, %v) answered hangs on more than was handed over", n, list)
			}
			copy(room, kept)
			values = values[:cap(values)]
			for j := range values {
				values[j] = -100
			}
			before = append(before, values)
			if !slices.Equal(room, kept) || !slices.Equal(first, want) {
				t.Fatalf("P2: what Solve(%d, %v) answered shares memory", n, list)
			}
		}
		for _, l := range before[max(0, len(before)-6):] {
			if slices.IndexFunc(l, func(x int) bool { return x != -100 }) >= 0 {
				t.Fatalf("P2: Solve(%d, %v) wrote into an earlier answer", n, list)
			}
		}
	}
}
