package machine

import "leak/syntax"

// apply tells x o y for two values. A run is trapped before it divides by 0, so
// what is told for that is never used.
func apply(h syntax.Head, operation byte, x, y int) int {
	switch operation {
	case syntax.Add:
		return (x + y) % h.Values
	case syntax.Subtract:
		return (x - y + h.Values) % h.Values
	case syntax.And:
		return x & y
	case syntax.Or:
		return x | y
	case syntax.Xor:
		return x ^ y
	case syntax.Below:
		return oneIf(x < y)
	case syntax.Equal:
		return oneIf(x == y)
	case syntax.Up:
		return up(h, x, y)
	case syntax.Down:
		return halve(x, y)
	}
	return divide(operation, x, y)
}

func oneIf(yes bool) int {
	if yes {
		return 1
	}
	return 0
}

// up stops at the width: behind it every bit has left the value.
func up(h syntax.Head, x, y int) int {
	for i := 0; i < y && i < h.Width; i++ {
		x = x * 2 % h.Values
	}
	return x
}

// halve tells x divided by 2 to the power times, cut to a whole number.
func halve(x, times int) int {
	for i := 0; i < times && x > 0; i++ {
		x /= 2
	}
	return x
}

func divide(operation byte, x, y int) int {
	if y == 0 {
		return 0
	}
	if operation == syntax.Quotient {
		return x / y
	}
	return x % y
}

// bits tells the least number b with x below 2 to the power b.
func bits(x int) int {
	b := 0
	for x > 0 {
		x /= 2
		b++
	}
	return b
}
