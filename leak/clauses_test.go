package leak_test

import (
	"math/rand"
	"slices"
)

// apart tells the clauses of a list.
func apart(list []int) [][]int {
	var clauses [][]int
	clause := []int{}
	for _, x := range list {
		if x == 0 {
			clauses = append(clauses, clause)
			clause = []int{}
			continue
		}
		clause = append(clause, x)
	}
	return clauses
}

func together(clauses [][]int) []int {
	var list []int
	for _, c := range clauses {
		list = append(append(list, c...), 0)
	}
	return list
}

// satisfied tells whether values satisfy a list of clauses.
func satisfied(list, values []int) bool {
	for _, c := range apart(list) {
		if !slices.ContainsFunc(c, func(x int) bool { return x > 0 && values[x-1] == 1 || x < 0 && values[-x-1] == 0 }) {
			return false
		}
	}
	return true
}

// byTrying tells whether some values satisfy a list of clauses, by trying all.
func byTrying(n int, list []int) bool {
	values := make([]int, n)
	for number := 0; number < 1<<n; number++ {
		for i := range values {
			values[i] = number >> i & 1
		}
		if satisfied(list, values) {
			return true
		}
	}
	return false
}

// without tells what is left of clauses if x holds.
func without(clauses [][]int, x int) [][]int {
	var left [][]int
	for _, c := range clauses {
		if slices.Contains(c, x) {
			continue
		}
		left = append(left, slices.DeleteFunc(slices.Clone(c), func(y int) bool { return y == -x }))
	}
	return left
}

// bySplitting tells whether some values satisfy clauses: a shortest one holds by
// its first number, or it does not.
func bySplitting(clauses [][]int) bool {
	if len(clauses) == 0 {
		return true
	}
	short := slices.MinFunc(clauses, func(a, b []int) int { return len(a) - len(b) })
	if len(short) == 0 {
		return false
	}
	return bySplitting(without(clauses, short[0])) || len(short) > 1 && bySplitting(without(clauses, -short[0]))
}

// isList tells whether Solve must take a list, in the order of the document's
// words.
func isList(n int, list []int) bool {
	if n < 0 || n > 64 || len(list) > 1000 {
		return false
	}
	for _, x := range list {
		if x < -n || x > n {
			return false
		}
	}
	return len(list) == 0 || list[len(list)-1] == 0
}

// made makes clauses of some numbers each over n names, no name twice in one.
func made(r *rand.Rand, n, clauses, numbers int) []int {
	var list []int
	for ; clauses > 0; clauses-- {
		for _, i := range r.Perm(n)[:numbers] {
			list = append(list, (i+1)*(1-2*r.Intn(2)))
		}
		list = append(list, 0)
	}
	return list
}

// choices goes over all ways to choose k of some numbers.
func choices(numbers []int, k int, each func([]int)) {
	var choose func(from int, chosen []int)
	choose = func(from int, chosen []int) {
		if len(chosen) == k {
			each(chosen)
			return
		}
		for i := from; i < len(numbers); i++ {
			choose(i+1, append(slices.Clone(chosen), numbers[i]))
		}
	}
	choose(0, nil)
}

// atLeast makes clauses that say: at least k of the numbers hold.
func atLeast(numbers []int, k int) []int {
	var list []int
	choices(numbers, len(numbers)-k+1, func(c []int) { list = append(append(list, c...), 0) })
	return list
}

func contrary(numbers []int) []int {
	l := slices.Clone(numbers)
	for i := range l {
		l[i] = -l[i]
	}
	return l
}

// atMost makes clauses that say: at most k of the numbers hold.
func atMost(numbers []int, k int) []int {
	return atLeast(contrary(numbers), len(numbers)-k)
}

// parity makes clauses that say: an odd number of these hold, or an even one.
func parity(numbers []int, odd bool) []int {
	var list []int
	for set := 0; set < 1<<len(numbers); set++ {
		ones := 0
		clause := slices.Clone(numbers)
		for i := range clause {
			if set>>i&1 == 1 {
				ones++
				clause[i] = -clause[i]
			}
		}
		if (ones%2 == 1) != odd {
			list = append(append(list, clause...), 0)
		}
	}
	return list
}

// pigeons makes clauses that say: each pigeon is in a hole, no two in one.
func pigeons(pigeons, holes int) (int, []int) {
	var list []int
	for p := 0; p < pigeons; p++ {
		for h := 1; h <= holes; h++ {
			list = append(list, p*holes+h)
		}
		list = append(list, 0)
	}
	for h := 1; h <= holes; h++ {
		var hole []int
		for p := 0; p < pigeons; p++ {
			hole = append(hole, p*holes+h)
		}
		list = append(list, atMost(hole, 1)...)
	}
	return pigeons * holes, list
}

// corners makes a graph at random, each corner with some edges, and tells the
// edges of each: numbers from 1 on.
func corners(r *rand.Rand, n, edges int) [][]int {
	for {
		l := make([][]int, n)
		ends := r.Perm(n * edges)
		right := true
		for i, end := range ends {
			c := end % n
			right = right && !slices.Contains(l[c], i/2+1)
			l[c] = append(l[c], i/2+1)
		}
		if right {
			return l
		}
	}
}

// oddCorners makes clauses that say: at the first corner of a graph an odd number
// of edges holds, or an even one; at each of the others an even one.
func oddCorners(r *rand.Rand, n, edges int, odd bool) (int, []int) {
	var list []int
	for i, c := range corners(r, n, edges) {
		list = append(list, parity(c, odd && i == 0)...)
	}
	return n * edges / 2, list
}

// groups makes clauses that say: of each group of 4 names, and of one of 5 if there
// is to be one, at most 2 hold; and of other such groups at most 2 do not. With a
// group of 5 that is one name too many.
func groups(r *rand.Rand, fours int, five bool) (int, []int) {
	n := 4 * fours
	if five {
		n += 5
	}
	var list []int
	for side := 0; side < 2; side++ {
		names := r.Perm(n)
		for i := range names {
			names[i] = (names[i] + 1) * (1 - 2*side)
		}
		if five {
			list = append(list, atMost(names[:5], 2)...)
			names = names[5:]
		}
		for ; len(names) > 0; names = names[4:] {
			list = append(list, atMost(names[:4], 2)...)
		}
	}
	return n, list
}
