package syntax

// The kinds of commands and of lines: the byte that each begins with.
const (
	Set    byte = '='
	Load   byte = 'l'
	Store  byte = 's'
	Branch byte = '?'
	Loop   byte = '!'
	Zero   byte = 'z'
	Jump   byte = 'j'
	End    byte = 'h'
)

// The operations.
const (
	Add      byte = '+'
	Subtract byte = '-'
	And      byte = '&'
	Or       byte = '|'
	Xor      byte = '^'
	Below    byte = '<'
	Equal    byte = '='
	Up       byte = 'U'
	Down     byte = 'D'
	Quotient byte = '/'
	Rest     byte = '%'
)

// Divides tells whether an operation divides.
func Divides(operation byte) bool {
	return operation == Quotient || operation == Rest
}

// Operand is a variable or a value.
type Operand struct {
	Named  bool
	Number int // of the variable, if it is named; else the value itself
}

// Command is one command or one line. What a kind does not have is left 0.
type Command struct {
	Kind byte
	Var  int
	X    Operand
	Op   byte
	Y    Operand
	Yes  int // the number of the command that follows; of a test, if x is not 0
	No   int // of a test: the number of the command that follows, if x is 0

	// Of a branch: where in the row its second body begins, and what is behind it.
	// (What follows the bodies may stand further on, if the branch is the last
	// command of a body itself.)
	Second int
	Behind int
}

func isCommand(b byte) bool {
	switch b {
	case Set, Load, Store, Branch, Loop:
		return true
	}
	return false
}

func isLine(b byte) bool {
	switch b {
	case Set, Load, Store, Zero, Jump, End:
		return true
	}
	return false
}

func isOperation(b byte) bool {
	switch b {
	case Add, Subtract, And, Or, Xor, Below, Equal, Up, Down, Quotient, Rest:
		return true
	}
	return false
}

// takeCommand takes a line, or a command up to the bodies in it.
func (r *reader) takeCommand() Command {
	var c Command
	c.Kind = r.peek()
	r.take(c.Kind)
	switch c.Kind {
	case Set:
		c.Var = r.takeVariable()
		c.X = r.takeOperand()
		c.Op = r.takeOperation()
		c.Y = r.takeOperand()
	case Load:
		c.Var = r.takeVariable()
		c.X = r.takeOperand()
	case Store:
		c.X = r.takeOperand()
		c.Y = r.takeOperand()
	case Branch, Loop:
		c.X = r.takeOperand()
	case Zero:
		c.X = r.takeOperand()
		c.No = r.takeNumber()
	case Jump:
		c.Yes = r.takeNumber()
	}
	return c
}

func (r *reader) takeVariable() int {
	return r.takeBetween('a', 'a'+byte(r.head.Vars)-1)
}

func (r *reader) takeOperand() Operand {
	b := r.peek()
	if b < '0' || b > '9' {
		return Operand{Named: true, Number: r.takeVariable()}
	}
	digit := r.takeBetween('0', '9')
	return Operand{Named: false, Number: digit % r.head.Values}
}

func (r *reader) takeOperation() byte {
	b := r.peek()
	if !isOperation(b) {
		r.bad = true
		return 0
	}
	r.take(b)
	return b
}
