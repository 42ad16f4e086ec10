package solver

const (
	usualPatience = 60   // conflicts ahead of the first restart
	firstRoom     = 2000 // learned clauses ahead of the first forgetting
	moreRoom      = 300  // how many more there may be ahead of the next one
)

// restart takes all choices back. By what it has learned, the search goes another
// way then. It begins when all has been followed up.
func (s *Solver) restart() {
	s.back(0)
	s.conflicts = 0
	s.nextWait()
	if s.learned > s.room {
		s.forget()
		s.room += moreRoom
	}
}

// nextWait tells how many times its patience the search waits for the next
// restart: 1, 1, 2, 1, 1, 2, 4, 1, 1, 2, 1, 1, 2, 4, 8 and so on. Mostly that is
// short, as a search that began badly goes on for long. But it grows without end.
func (s *Solver) nextWait() {
	if s.round&-s.round == s.wait {
		s.round++
		s.wait = 1
		return
	}
	s.wait *= 2
}

// forget drops half of the learned clauses, since each takes time to follow: those
// that lay on most levels and, among equals, the oldest. What holds without any
// choice is dropped too. There are no choices, so no clause is the reason for one.
func (s *Solver) forget() {
	limit, over := s.limit()
	old := s.clauses
	s.clauses = nil
	s.learned = 0
	for i := 0; i < len(s.watchers); i++ {
		s.watchers[i] = nil
	}
	for i := 0; i < len(old); i++ {
		if old[i].spread == limit && over > 0 {
			over--
			continue
		}
		if old[i].spread <= limit && !s.isSettled(old[i]) {
			s.keepAgain(old[i])
		}
	}
}

func (s *Solver) keepAgain(c clause) {
	s.keep(c)
	if c.spread > 0 {
		s.learned++
	}
}

// limit tells on how many levels a learned clause may have lain if it is to be
// kept, and how many too many there are of those that lay on just as many.
func (s *Solver) limit() (int, int) {
	numbers := make([]int, len(s.counted)+1)
	for i := 0; i < len(s.clauses); i++ {
		numbers[s.clauses[i].spread]++
	}
	limit := 0
	kept := 0
	for limit+1 < len(numbers) && kept < s.learned/2 {
		limit++
		kept += numbers[limit]
	}
	return limit, kept - s.learned/2
}

func (s *Solver) isSettled(c clause) bool {
	for i := 0; i < len(c.literals); i++ {
		if s.known[c.literals[i]] == holds {
			return true
		}
	}
	return false
}
