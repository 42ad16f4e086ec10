package machine

import (
	"math/big"
	"testing"

	"leak/syntax"
)

func headOf(width int) syntax.Head {
	return syntax.Head{Width: width, Values: 1 << width, Vars: 1}
}

// power tells 2 to the power y, which for the greatest values fits no int.
func power(y int) *big.Int {
	return new(big.Int).Lsh(big.NewInt(1), uint(y))
}

// want says what the document says of an operation, in other words than apply.
func want(operation byte, n, x, y int) int {
	bit := func(keep func(a, b bool) bool) int {
		sum := 0
		for i := 0; i < 8; i++ {
			if keep(x>>i&1 == 1, y>>i&1 == 1) {
				sum += 1 << i
			}
		}
		return sum
	}
	switch operation {
	case '+':
		if x+y >= n {
			return x + y - n
		}
		return x + y
	case '-':
		if x < y {
			return x - y + n
		}
		return x - y
	case '&':
		return bit(func(a, b bool) bool { return a && b })
	case '|':
		return bit(func(a, b bool) bool { return a || b })
	case '^':
		return bit(func(a, b bool) bool { return a != b })
	case '<':
		if x < y {
			return 1
		}
	case '=':
		if x == y {
			return 1
		}
	case 'U':
		product := new(big.Int).Mul(big.NewInt(int64(x)), power(y))
		return int(product.Mod(product, big.NewInt(int64(n))).Int64())
	case 'D':
		return int(new(big.Int).Quo(big.NewInt(int64(x)), power(y)).Int64())
	case '/':
		times := 0
		for ; y != 0 && x >= y; x -= y {
			times++
		}
		return times
	case '%':
		for ; y != 0 && x >= y; x -= y {
		}
		if y != 0 {
			return x
		}
	}
	return 0
}

func TestOperationsAtAllValues(t *testing.T) {
	for _, width := range []int{1, 2, 3, 5, 8} {
		n := 1 << width
		for _, operation := range []byte("+-&|^<=UD/%") {
			for x := 0; x < n; x++ {
				for y := 0; y < n; y++ {
					got := apply(headOf(width), operation, x, y)
					if w := want(operation, n, x, y); got != w {
						t.Fatalf("P4: width %d: %d %c %d is %d, want %d", width, x, operation, y, got, w)
					}
				}
			}
		}
	}
}

func TestDivides(t *testing.T) {
	for b := 0; b < 256; b++ {
		if syntax.Divides(byte(b)) != (b == '/' || b == '%') {
			t.Errorf("P4: does %q divide?", byte(b))
		}
	}
}

func TestBits(t *testing.T) {
	for x := 0; x < 256; x++ {
		b := bits(x)
		if x >= 1<<b || b > 0 && x < 1<<(b-1) {
			t.Errorf("P4: %d is of %d bits", x, b)
		}
	}
}
