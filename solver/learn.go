package solver

// learn learns a clause from one that can hold no more, and goes back to where
// the new one asks for a literal.
func (s *Solver) learn(conflict int) {
	s.conflicts++
	if len(s.choices) == 0 {
		s.failed = true
		return
	}
	s.explain(conflict)
	s.shorten()
	s.unmark()
	spread := s.spread()
	level := s.bringLatest()
	s.back(level)
	s.order.age()
	s.keepLesson(spread)
}

// explain makes the lesson: literals that fail, one of which must hold. The first
// is the only one that came to fail since the last choice: the last through which
// all ways from there to the conflict lead.
func (s *Solver) explain(conflict int) {
	s.lesson = s.lesson[:0]
	s.lesson = append(s.lesson, none)
	s.pending = 0
	s.gather(conflict)
	for at := len(s.trail) - 1; at >= 0 && s.pending > 0; at-- {
		l := s.trail[at]
		if !s.marked[l/2] {
			continue
		}
		s.pending--
		if s.pending == 0 {
			s.lesson[0] = l ^ 1
		} else {
			s.gather(s.reason[l/2])
		}
	}
}

// gather marks the names of a clause. Those that came to be known since the last
// choice are to be explained; the literals of the others belong to the lesson.
// What is known without any choice belongs nowhere.
func (s *Solver) gather(number int) {
	literals := s.clauses[number].literals
	for i := 0; i < len(literals); i++ {
		name := literals[i] / 2
		if s.marked[name] || s.level[name] == 0 {
			continue
		}
		s.marked[name] = true
		s.marks = append(s.marks, name)
		s.order.raise(name)
		if s.level[name] == len(s.choices) {
			s.pending++
		} else {
			s.lesson = append(s.lesson, literals[i])
		}
	}
}

// shorten leaves out what fails only since other literals of the lesson do.
func (s *Solver) shorten() {
	kept := 1
	for i := 1; i < len(s.lesson); i++ {
		l := s.lesson[i]
		if !s.followsFromMarked(l / 2) {
			s.lesson[kept] = l
			kept++
		}
	}
	s.lesson = s.lesson[:kept]
}

func (s *Solver) followsFromMarked(name int) bool {
	reason := s.reason[name]
	if reason == none {
		return false
	}
	literals := s.clauses[reason].literals
	for i := 0; i < len(literals); i++ {
		other := literals[i] / 2
		if !s.marked[other] && s.level[other] > 0 {
			return false
		}
	}
	return true
}

func (s *Solver) unmark() {
	for i := 0; i < len(s.marks); i++ {
		s.marked[s.marks[i]] = false
	}
	s.marks = s.marks[:0]
}

// spread tells on how many levels the literals of the lesson lie.
func (s *Solver) spread() int {
	s.counts++
	levels := 0
	for i := 0; i < len(s.lesson); i++ {
		level := s.level[s.lesson[i]/2]
		if s.counted[level] != s.counts {
			s.counted[level] = s.counts
			levels++
		}
	}
	return levels
}

// bringLatest brings the literal of the latest level, but for the first one, to
// the second place, and tells that level. So the lesson watches the two literals
// that are open again first.
func (s *Solver) bringLatest() int {
	latest := 0
	for i := 1; i < len(s.lesson); i++ {
		l := s.lesson[i]
		if s.level[l/2] > latest {
			latest = s.level[l/2]
			s.lesson[i] = s.lesson[1]
			s.lesson[1] = l
		}
	}
	return latest
}

// keepLesson keeps the lesson as a clause. It asks for its first literal.
func (s *Solver) keepLesson(spread int) {
	if len(s.lesson) == 1 {
		s.settle(s.lesson[0], none)
		return
	}
	literals := make([]int, len(s.lesson))
	copy(literals, s.lesson)
	number := len(s.clauses)
	s.keep(clause{literals: literals, spread: spread})
	s.learned++
	s.settle(literals[0], number)
}
