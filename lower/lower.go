// Package lower turns kernels into codes.
package lower

import "leak/syntax"

// A writer writes the text of a code.
type writer struct {
	lines []int // the number of the line that each command of the kernel becomes, then of the last line
	text  []byte
}

// Code tells the code of a kernel. Each command becomes a line, behind which a
// jump stands only where the next line is not what follows; so a run of the code
// takes at most two steps for one of the kernel, and never fewer than one.
func Code(k syntax.Program) string {
	w := writer{lines: linesOf(k.Commands)}
	w.text = append(w.text, k.Head.Text...)
	for i := 0; i < len(k.Commands); i++ {
		c := k.Commands[i]
		w.writeLine(c)
		if jumps(c, i) {
			w.write(syntax.Jump)
			w.writeNumber(c.Yes)
		}
	}
	w.write(syntax.End)
	return string(w.text)
}

// jumps tells whether a jump must stand behind the line of the command with the
// number at.
func jumps(c syntax.Command, at int) bool {
	return c.Yes != at+1
}

func linesOf(commands []syntax.Command) []int {
	var lines []int
	next := 0
	for i := 0; i < len(commands); i++ {
		lines = append(lines, next)
		next++
		if jumps(commands[i], i) {
			next++
		}
	}
	lines = append(lines, next)
	return lines
}

func (w *writer) writeLine(c syntax.Command) {
	switch c.Kind {
	case syntax.Set:
		w.write(syntax.Set)
		w.writeVariable(c.Var)
		w.writeOperand(c.X)
		w.write(c.Op)
		w.writeOperand(c.Y)
	case syntax.Load:
		w.write(syntax.Load)
		w.writeVariable(c.Var)
		w.writeOperand(c.X)
	case syntax.Store:
		w.write(syntax.Store)
		w.writeOperand(c.X)
		w.writeOperand(c.Y)
	case syntax.Branch, syntax.Loop:
		w.write(syntax.Zero)
		w.writeOperand(c.X)
		w.writeNumber(c.No)
	}
}

func (w *writer) write(b byte) {
	w.text = append(w.text, b)
}

func (w *writer) writeVariable(number int) {
	w.write('a' + byte(number))
}

func (w *writer) writeOperand(o syntax.Operand) {
	if o.Named {
		w.writeVariable(o.Number)
		return
	}
	w.write(syntax.Digit(o.Number))
}

// writeNumber writes the number of the line of a command. Two digits are
// enough: what becomes two lines takes at least four bytes of the kernel (its
// bracket with it), so there are at most 149 lines.
func (w *writer) writeNumber(command int) {
	line := w.lines[command]
	w.write(syntax.Digit(line / 16))
	w.write(syntax.Digit(line % 16))
}
