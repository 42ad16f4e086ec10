package solver

import "leak/api"

// AreClauses tells whether a list of numbers is clauses over n names, within the
// bounds.
func AreClauses(n int, numbers []int) bool {
	if n < 0 || n > api.MaxNames || len(numbers) > api.MaxNumbers {
		return false
	}
	for i := 0; i < len(numbers); i++ {
		if numbers[i] < -n || numbers[i] > n {
			return false
		}
	}
	return len(numbers) == 0 || numbers[len(numbers)-1] == 0
}

// AddAll adds the clauses of a list, in which a 0 stands behind each.
func (s *Solver) AddAll(numbers []int) {
	from := 0
	for i := 0; i < len(numbers); i++ {
		if numbers[i] == 0 {
			s.Add(numbers[from:i])
			from = i + 1
		}
	}
}

// Add adds a clause: i stands for the name i (from 1 on), -i for its contrary.
// What holds without any choice need not be kept, nor a literal that fails. So
// the choices of a search are taken back.
func (s *Solver) Add(numbers []int) {
	s.back(0)
	var literals []int
	for i := 0; i < len(numbers); i++ {
		l := literalOf(numbers[i])
		if s.known[l] == holds || contains(literals, l^1) {
			return
		}
		if s.known[l] == open && !contains(literals, l) {
			literals = append(literals, l)
		}
	}
	switch len(literals) {
	case 0:
		s.failed = true
	case 1:
		s.settle(literals[0], none)
	default:
		s.keep(clause{literals: literals})
	}
}

func literalOf(number int) int {
	if number > 0 {
		return 2 * (number - 1)
	}
	return 2*(-number-1) + 1
}

func contains(literals []int, l int) bool {
	for i := 0; i < len(literals); i++ {
		if literals[i] == l {
			return true
		}
	}
	return false
}
