package solver

import (
	"math/rand"
	"slices"
	"testing"
)

// list makes clauses of three numbers at random, with a 0 behind each.
func list(r *rand.Rand, n, clauses int) []int {
	var l []int
	for ; clauses > 0; clauses-- {
		for i := 0; i < 3; i++ {
			l = append(l, (1+r.Intn(n))*(1-2*r.Intn(2)))
		}
		l = append(l, 0)
	}
	return l
}

// hasAny tells whether one of some literals holds, by values that are the bits of a
// number.
func hasAny(literals []int, values int) bool {
	return slices.ContainsFunc(literals, func(l int) bool { return values>>(l/2)&1 != l&1 })
}

func satisfies(numbers []int, values int) bool {
	var literals []int
	for _, x := range numbers {
		if x != 0 {
			literals = append(literals, literalOf(x))
			continue
		}
		if !hasAny(literals, values) {
			return false
		}
		literals = nil
	}
	return true
}

// all tells all values over n names that satisfy a list.
func all(n int, numbers []int) []int {
	var found []int
	for values := 0; values < 1<<n; values++ {
		if satisfies(numbers, values) {
			found = append(found, values)
		}
	}
	return found
}

// checkInside tells whether all that a solver keeps fits together.
func checkInside(t *testing.T, s *Solver, values []int) {
	t.Helper()
	learned := 0
	watched := 0
	for number, c := range s.clauses {
		if c.spread > 0 {
			learned++
		}
		for i := 0; i < 2; i++ {
			w := s.watchers[c.literals[i]]
			at := slices.IndexFunc(w, func(w watcher) bool { return w.number == number })
			if at < 0 || w[at].other == c.literals[i] || !slices.Contains(c.literals, w[at].other) {
				t.Fatalf("clause %v does not watch its literal %d as it must: %v", c.literals, i, w)
			}
		}
		for _, v := range values {
			if !hasAny(c.literals, v) {
				t.Fatalf("clause %v does not hold by the values %b", c.literals, v)
			}
		}
	}
	for _, numbers := range s.watchers {
		watched += len(numbers)
	}
	if learned != s.learned || watched != 2*len(s.clauses) {
		t.Fatalf("%d clauses, %d of them learned, %d watched, %d counted as learned", len(s.clauses), learned, watched, s.learned)
	}
	if slices.Contains(s.marked, true) || len(s.marks) > 0 {
		t.Fatal("names are still marked")
	}
}

// TestImpatient: a solver that restarts and forgets as often as it may goes wrong
// as little as one that hardly ever does, and what it learns follows.
func TestImpatient(t *testing.T) {
	r := rand.New(rand.NewSource(31))
	forgot := 0
	for i := 0; i < 4000; i++ {
		n := 3 + r.Intn(9)
		numbers := list(r, n, n*3+r.Intn(2*n))
		values := all(n, numbers)
		for _, room := range []int{0, 3, firstRoom} {
			s := New(n)
			s.patience = 1 + r.Intn(3)
			s.room = room
			s.AddAll(numbers)
			before := len(s.clauses)
			found := s.Solve()
			if found != (len(values) > 0) {
				t.Fatalf("Solve of %d, %v = %v", n, numbers, found)
			}
			if len(s.clauses) < before {
				forgot++
			}
			checkInside(t, s, values)
			if found && !slices.Contains(values, valuesOf(s)) {
				t.Fatalf("Values of %d, %v = %v", n, numbers, s.Values())
			}
			if s.Solve() != found {
				t.Fatalf("Solve of %d, %v answers otherwise at the second time", n, numbers)
			}
		}
	}
	if forgot < 100 {
		t.Errorf("only %d solvers forgot what holds anyway", forgot)
	}
}

// TestAdd: what is kept of a clause is what can still fail.
func TestAdd(t *testing.T) {
	s := New(4)
	s.Add([]int{1, 2, 1, 2, 2})
	s.Add([]int{3, -3, 1})
	s.Add([]int{-4, -4})
	s.Add([]int{-4, 1})
	s.Add([]int{4, 3, 4, 1})
	want := [][]int{{0, 2}, {4, 0}}
	for i, c := range s.clauses {
		if i >= len(want) || !slices.Equal(c.literals, want[i]) {
			t.Errorf("clause %d has the literals %v", i, c.literals)
		}
	}
	if len(s.clauses) != len(want) || !slices.Equal(s.trail, []int{7}) || s.failed {
		t.Errorf("%d clauses, known are %v, failed %v", len(s.clauses), s.trail, s.failed)
	}
	s.Add([]int{4})
	if !s.failed || s.Solve() {
		t.Error("a clause without an open literal does not fail")
	}
}

// TestLesson: the lesson has one literal that came to fail since the last choice,
// and nothing that follows from the rest.
func TestLesson(t *testing.T) {
	s := New(6)
	s.AddAll([]int{-1, -5, 2, 0, -3, -1, 4, 0, -3, -2, -4, 0, 5, 0})
	if c := s.follow(); c != none {
		t.Fatalf("clause %d can hold no more", c)
	}
	s.choices = append(s.choices, len(s.trail))
	s.settle(literalOf(1), none)
	s.follow()
	s.choices = append(s.choices, len(s.trail))
	s.settle(literalOf(6), none)
	s.follow()
	s.choices = append(s.choices, len(s.trail))
	s.settle(literalOf(3), none)
	c := s.follow()
	if c != 2 {
		t.Fatalf("clause %d can hold no more, want 2", c)
	}
	s.learn(c)
	last := s.clauses[len(s.clauses)-1]
	if !slices.Equal(last.literals, []int{literalOf(-3), literalOf(-1)}) || last.spread != 2 {
		t.Errorf("the literals %v on %d levels were learned", last.literals, last.spread)
	}
	if len(s.choices) != 1 || s.known[literalOf(-3)] != holds || s.known[literalOf(6)] != open {
		t.Errorf("there are %d choices behind the lesson, and known is %v", len(s.choices), s.known)
	}
}

// TestRestart: all choices are taken back, and the waits grow without end, which
// lets a search end.
func TestRestart(t *testing.T) {
	s := New(2)
	var waits []int
	for i := 0; i < 1<<12; i++ {
		waits = append(waits, s.wait)
		s.conflicts = s.patience * s.wait
		s.choose()
		s.restart()
		if s.conflicts != 0 || len(s.choices) != 0 || len(s.trail) != 0 {
			t.Fatalf("%d conflicts, choices %v", s.conflicts, s.choices)
		}
	}
	if !slices.Equal(waits[:15], []int{1, 1, 2, 1, 1, 2, 4, 1, 1, 2, 1, 1, 2, 4, 8}) {
		t.Errorf("the first waits are %v", waits[:15])
	}
	if slices.Max(waits) != 1<<11 {
		t.Errorf("the longest wait is %d", slices.Max(waits))
	}
	s.NewName()
	if answer := s.SolveIf(1, 0); answer != Found || s.wait != 1 || s.round != 1 {
		t.Errorf("the next search has found %d, and waits %d, %d times", answer, s.wait, s.round)
	}
	s.learned = s.room + 1
	s.restart()
	if s.room != firstRoom+moreRoom || s.learned != 0 {
		t.Errorf("behind a forgetting there are %d clauses, and room for %d", s.learned, s.room)
	}
}

// TestForget: half of what was learned stays, the clauses on the fewest levels and
// the youngest; and all that was given.
func TestForget(t *testing.T) {
	s := New(8)
	s.AddAll([]int{1, 2, 3, 0, -1, -2, 0})
	for i, spread := range []int{5, 3, 2, 4, 3, 6, 3, 2} {
		s.keep(clause{literals: []int{2 * i, 2 * ((i + 1) % 8), 2 * ((i + 2) % 8)}, spread: spread})
		s.learned++
	}
	s.forget()
	var kept []int
	for _, c := range s.clauses {
		kept = append(kept, c.spread)
	}
	if !slices.Equal(kept, []int{0, 0, 2, 3, 3, 2}) {
		t.Errorf("kept are clauses with the spreads %v", kept)
	}
	if s.clauses[3].literals[0] != 8 || s.clauses[4].literals[0] != 12 {
		t.Error("the oldest of equals was not dropped")
	}
	checkInside(t, s, nil)
	s.settle(0, none)
	if c := s.follow(); c != none {
		t.Fatalf("clause %d can hold no more", c)
	}
	s.forget()
	for _, c := range s.clauses {
		if slices.Contains(c.literals, 0) {
			t.Errorf("%v holds anyway, and was kept", c.literals)
		}
	}
}

// TestOrder: names come out by worth, whatever has risen and gone in and out
// before.
func TestOrder(t *testing.T) {
	r := rand.New(rand.NewSource(32))
	for i := 0; i < 300; i++ {
		n := r.Intn(20)
		o := newOrder(n)
		inside := make([]bool, n)
		for j := range inside {
			inside[j] = true
		}
		for j := 0; j < 100 && n > 0; j++ {
			name := r.Intn(n)
			switch r.Intn(4) {
			case 0:
				o.push(name)
				inside[name] = true
			case 1:
				checkPop(t, &o, inside)
			case 2:
				o.raise(name)
			case 3:
				o.age()
			}
		}
		for range n + 1 {
			checkPop(t, &o, inside)
		}
	}
}

func checkPop(t *testing.T, o *order, inside []bool) {
	t.Helper()
	most := none
	for name, in := range inside {
		if in && (most == none || o.worth[name] > o.worth[most]) {
			most = name
		}
	}
	got := o.pop()
	if got == none || most == none {
		if got != most {
			t.Fatalf("name %d came out, want %d", got, most)
		}
		return
	}
	if !inside[got] || o.worth[got] != o.worth[most] {
		t.Fatalf("name %d of worth %d came out, there is %d of worth %d", got, o.worth[got], most, o.worth[most])
	}
	inside[got] = false
}

// TestOrderBounds: worth never grows above what fits, and what rose last counts
// most.
func TestOrderBounds(t *testing.T) {
	o := newOrder(2)
	for i := 0; i < 100000; i++ {
		o.raise(0)
		o.age()
		if o.worth[0] < 0 || o.worth[0] >= 1<<30 || o.step < firstStep {
			t.Fatalf("worth %d, step %d", o.worth[0], o.step)
		}
	}
	for i := 0; i < 40; i++ {
		o.raise(1)
		o.age()
	}
	if first := o.pop(); first != 1 {
		t.Errorf("name %d comes first", first)
	}
}

// TestSolveIf: one solver answers for one number after another, while names and
// clauses are added, and as if each were its first one.
func TestSolveIf(t *testing.T) {
	r := rand.New(rand.NewSource(33))
	counts := [3]int{}
	for range 1500 {
		s := New(r.Intn(3))
		s.patience = 1 + r.Intn(3)
		s.room = r.Intn(4)
		n := len(s.level)
		var numbers []int
		for range 12 {
			if n < 3 || n < 9 && r.Intn(3) == 0 {
				n++
				if name := s.NewName(); name != n {
					t.Fatalf("the name %d is called %d", n, name)
				}
			}
			more := list(r, n, r.Intn(2*n))
			numbers = append(numbers, more...)
			s.AddAll(more)
			number := (1 + r.Intn(n)) * (1 - 2*r.Intn(2))
			values := all(n, append(slices.Clone(numbers), number, 0))
			most := r.Intn(3)
			answer := s.SolveIf(number, most)
			counts[answer]++
			if answer == GivenUp && most > 0 {
				answer = s.SolveIf(number, 0)
			}
			if answer == GivenUp || answer == Found != (len(values) > 0) {
				t.Fatalf("SolveIf(%d) of %d, %v = %d", number, n, numbers, answer)
			}
			if answer == Found && (!s.Holds(number) || s.Holds(-number) || !slices.Contains(values, valuesOf(s))) {
				t.Fatalf("SolveIf(%d) of %d, %v found %v", number, n, numbers, s.Values())
			}
			checkInside(t, s, all(n, numbers))
		}
		if s.Solve() != (len(all(n, numbers)) > 0) {
			t.Fatalf("Solve of %d, %v behind other questions", n, numbers)
		}
	}
	if slices.Min(counts[:]) < 50 {
		t.Errorf("the answers came %v times", counts)
	}
}

// valuesOf tells the values that were found as the bits of a number.
func valuesOf(s *Solver) int {
	number := 0
	for name, value := range s.Values() {
		number += value << name
	}
	return number
}
