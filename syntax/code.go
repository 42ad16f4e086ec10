package syntax

import "leak/api"

// ReadCode reads a code.
func ReadCode(text string) Program {
	if len(text) > api.MaxCode {
		return Program{Error: api.ErrLong}
	}
	r := reader{text: text}
	r.readHead()
	r.readLines()
	if r.bad || r.at < len(text) {
		return Program{Error: api.ErrForm, Place: r.at}
	}
	stray := strayLine(r.commands)
	if stray >= 0 {
		return Program{Error: api.ErrJump, Place: stray}
	}
	return Program{Error: api.OK, Head: r.head, Commands: r.commands}
}

// readLines takes lines as long as there are any, and wants one at least.
func (r *reader) readLines() {
	if !isLine(r.peek()) {
		r.bad = true
	}
	for isLine(r.peek()) {
		r.readLine()
	}
	lines := len(r.commands)
	for i := 0; i < lines; i++ {
		if r.commands[i].Kind == End {
			r.commands[i].Yes = lines
		}
	}
}

func (r *reader) readLine() {
	next := len(r.commands) + 1
	c := r.takeCommand()
	if c.Kind != Jump {
		c.Yes = next
	}
	r.commands = append(r.commands, c)
}

// strayLine tells the number of the first line that goes on at a line that is
// not there; if it is the last one that has no next, the number of lines; if
// there is none, -1.
func strayLine(lines []Command) int {
	last := End
	for i := 0; i < len(lines); i++ {
		last = lines[i].Kind
		if last == Jump && lines[i].Yes >= len(lines) {
			return i
		}
		if last == Zero && lines[i].No >= len(lines) {
			return i
		}
	}
	if last != End && last != Jump {
		return len(lines)
	}
	return -1
}
