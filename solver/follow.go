package solver

// A watcher is a clause that watches a literal, and another literal of it: where
// that one holds, the clause need not be looked at, which saves most of the time.
type watcher struct {
	number int
	other  int
}

// keep takes a clause in, under the next number.
func (s *Solver) keep(c clause) {
	number := len(s.clauses)
	s.clauses = append(s.clauses, c)
	s.watch(c.literals[0], number, c.literals[1])
	s.watch(c.literals[1], number, c.literals[0])
}

func (s *Solver) watch(l, number, other int) {
	s.watchers[l] = append(s.watchers[l], watcher{number: number, other: other})
}

// follow lets hold what must, since other literals hold. It tells a clause that
// can hold no more, or none.
func (s *Solver) follow() int {
	conflict := none
	for conflict == none && s.followed < len(s.trail) {
		l := s.trail[s.followed]
		s.followed++
		conflict = s.alarm(l ^ 1)
	}
	return conflict
}

// alarm goes over the clauses that watch a literal, since it has come to fail.
// Each watches another one from now on, or asks for the other one that it
// watches. It tells a clause that can hold no more, or none.
func (s *Solver) alarm(l int) int {
	watchers := s.watchers[l]
	kept := 0
	conflict := none
	for i := 0; i < len(watchers); i++ {
		w := watchers[i]
		if conflict == none && s.known[w.other] != holds {
			if s.turn(w.number, l) {
				continue
			}
			w.other = s.clauses[w.number].literals[0]
			if !s.ask(w.number) {
				conflict = w.number
			}
		}
		watchers[kept] = w
		kept++
	}
	s.watchers[l] = watchers[:kept]
	return conflict
}

// turn lets a clause watch another literal in place of l, and tells whether it
// does. If not, l is its second one, and it can hold by its first alone.
func (s *Solver) turn(number, l int) bool {
	literals := s.clauses[number].literals
	if literals[0] == l {
		literals[0] = literals[1]
		literals[1] = l
	}
	if s.known[literals[0]] == holds {
		return false
	}
	for i := 2; i < len(literals); i++ {
		m := literals[i]
		if s.known[m] != fails {
			literals[1] = m
			literals[i] = l
			s.watch(m, number, literals[0])
			return true
		}
	}
	return false
}

// ask lets the first literal of a clause hold, and tells whether it can.
func (s *Solver) ask(number int) bool {
	first := s.clauses[number].literals[0]
	if s.known[first] == open {
		s.settle(first, number)
	}
	return s.known[first] == holds
}
