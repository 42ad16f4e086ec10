// Package solver finds values for names that satisfy clauses.
//
// It chooses values, name by name, and follows up what they bring with them.
// When a clause can hold no more, it learns from that: a clause that follows from
// the others, and that keeps it from going wrong in the same way again.
package solver

// A literal is a name or its contrary, as a number: twice that of the name (from
// 0 on), and one more for the contrary. So l^1 is the contrary of l.

// What SolveIf answers.
const (
	GivenUp = 0
	Found   = 1
	None    = 2
)

// What is known of a literal.
const (
	open  = 0
	holds = 1
	fails = 2
)

// none is the number of no clause, no name and no place.
const none = -1

// A clause has two literals or more, and watches the first two. When all has
// been followed up, neither of these fails, unless the other one holds.
type clause struct {
	literals []int
	spread   int // of a learned clause, on how many levels it lay; of a given one, 0
}

// Solver is a search for values.
type Solver struct {
	failed    bool // no values satisfy the clauses
	asked     int  // the literal that must hold in the values that are looked for, or none
	clauses   []clause
	watchers  [][]watcher // of each literal, the clauses that watch it
	known     []int       // of each literal
	level     []int       // of each name that is not open, how many choices there were
	reason    []int       // of each name that is not open, the clause that asked for it, or none
	last      []int       // of each name, the literal that held last
	trail     []int       // the literals that hold, in the order in which they came to
	followed  int         // how many of them have been followed up
	choices   []int       // of each choice, how many literals held ahead of it
	order     order       // of the names, for choices
	lesson    []int       // the literals of the clause that is being learned
	marked    []bool      // of each name, whether it was met on the way to the lesson
	marks     []int       // the names that are marked
	pending   int         // how many of them are still to be explained
	counted   []int       // of each level, the last count that it was part of
	counts    int
	conflicts int // since the last restart
	patience  int // how many there are until the next one, at least
	wait      int // how many times as many there are
	round     int // how many waits of 1 there were
	learned   int // how many learned clauses there are
	room      int // how many there may be
}

// New makes a solver for some names, without clauses.
func New(names int) *Solver {
	s := &Solver{asked: none, patience: usualPatience, wait: 1, round: 1, room: firstRoom}
	s.watchers = make([][]watcher, 2*names)
	s.known = make([]int, 2*names)
	s.level = make([]int, names)
	s.reason = make([]int, names)
	s.last = make([]int, names)
	s.order = newOrder(names)
	s.marked = make([]bool, names)
	s.counted = make([]int, names+1)
	for i := 0; i < names; i++ {
		s.last[i] = 2*i + 1
	}
	return s
}

// NewName adds a name, and tells its number in clauses.
func (s *Solver) NewName() int {
	name := len(s.level)
	s.watchers = append(s.watchers, nil, nil)
	s.known = append(s.known, open, open)
	s.level = append(s.level, 0)
	s.reason = append(s.reason, none)
	s.last = append(s.last, 2*name+1)
	s.order.add()
	s.marked = append(s.marked, false)
	s.counted = append(s.counted, 0)
	return name + 1
}

// Solve tells whether there are values that satisfy the clauses.
func (s *Solver) Solve() bool {
	s.asked = none
	return s.search(0) == Found
}

// SolveIf looks for values that satisfy the clauses and in which a number holds,
// as it would in a clause: Found, None or, behind some conflicts, GivenUp. (If
// these are 0, it never gives up.) What it has learned holds for other numbers too.
func (s *Solver) SolveIf(number, conflicts int) int {
	s.asked = literalOf(number)
	s.conflicts = 0
	s.wait = 1
	s.round = 1
	return s.search(conflicts)
}

// search looks for values. It ends, since between two restarts no choices come
// twice, and the waits for a restart grow without end.
func (s *Solver) search(most int) int {
	s.back(0)
	conflicts := 0
	for !s.failed {
		conflict := s.follow()
		switch {
		case conflict != none:
			s.learn(conflict)
			conflicts++
		case s.isRefuted():
			return None
		case len(s.trail) == len(s.level):
			return Found
		case most > 0 && conflicts >= most:
			return GivenUp
		case s.conflicts >= s.patience*s.wait:
			s.restart()
		default:
			s.choose()
		}
	}
	return None
}

// isRefuted tells whether the literal that is asked for fails. It is the first
// choice, so it fails only if it must.
func (s *Solver) isRefuted() bool {
	return s.asked != none && s.known[s.asked] == fails
}

// Values tells the values that Solve has found, 0 or 1 for each name.
func (s *Solver) Values() []int {
	values := make([]int, len(s.level))
	for i := 0; i < len(values); i++ {
		if s.known[2*i] == holds {
			values[i] = 1
		}
	}
	return values
}

// Holds tells whether a number holds by the values that were found.
func (s *Solver) Holds(number int) bool {
	return s.known[literalOf(number)] == holds
}

// choose lets a literal hold: the one that is asked for or, if it holds, the open
// name of most worth with the value that it had last.
func (s *Solver) choose() {
	l := s.asked
	if l == none || s.known[l] != open {
		l = s.openLiteral()
	}
	if l != none {
		s.choices = append(s.choices, len(s.trail))
		s.settle(l, none)
	}
}

// openLiteral takes the open name of most worth out of the order.
func (s *Solver) openLiteral() int {
	name := s.order.pop()
	for name != none && s.known[2*name] != open {
		name = s.order.pop()
	}
	if name == none {
		return none
	}
	return s.last[name]
}

// settle lets an open literal hold.
func (s *Solver) settle(l, reason int) {
	s.known[l] = holds
	s.known[l^1] = fails
	s.level[l/2] = len(s.choices)
	s.reason[l/2] = reason
	s.trail = append(s.trail, l)
}

// back takes all choices back but some of the first, and what they brought.
func (s *Solver) back(choices int) {
	if choices >= len(s.choices) {
		return
	}
	length := s.choices[choices]
	for i := length; i < len(s.trail); i++ {
		l := s.trail[i]
		s.known[l] = open
		s.known[l^1] = open
		s.last[l/2] = l
		s.order.push(l / 2)
	}
	s.trail = s.trail[:length]
	s.choices = s.choices[:choices]
	s.followed = length
}
