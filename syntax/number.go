package syntax

// Digit tells the digit to the base 16 of a number from 0 to 15.
func Digit(n int) byte {
	if n < 10 {
		return '0' + byte(n)
	}
	return 'a' + byte(n-10)
}

// takeNumber takes two digits to the base 16.
func (r *reader) takeNumber() int {
	high := r.takeDigit()
	low := r.takeDigit()
	return high*16 + low
}

func (r *reader) takeDigit() int {
	b := r.peek()
	if b >= '0' && b <= '9' {
		return r.takeBetween('0', '9')
	}
	return 10 + r.takeBetween('a', 'f')
}
