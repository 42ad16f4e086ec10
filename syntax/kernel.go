package syntax

import "leak/api"

// ReadKernel reads a kernel.
func ReadKernel(text string) Program {
	if len(text) > api.MaxText {
		return Program{Error: api.ErrLong}
	}
	r := reader{text: text}
	r.readHead()
	r.readBody()
	if r.bad || r.at < len(text) {
		return Program{Error: api.ErrForm, Place: r.at}
	}
	return Program{Error: api.OK, Head: r.head, Commands: r.commands}
}

// readBody takes commands as long as there are any: what stands behind them
// is for the caller to judge.
func (r *reader) readBody() {
	for isCommand(r.peek()) {
		r.readCommand()
	}
}

func (r *reader) readCommand() {
	at := len(r.commands)
	c := r.takeCommand()
	c.Yes = at + 1
	c.No = at + 1
	r.commands = append(r.commands, c)
	switch c.Kind {
	case Branch:
		r.readBranch(at)
	case Loop:
		r.readLoop(at)
	}
}

func (r *reader) readBlock() {
	r.take('(')
	r.readBody()
	r.take(')')
}

// readBranch takes the two bodies of the branch with the number at. The end
// of the first one must lead past the second.
func (r *reader) readBranch(at int) {
	r.readBlock()
	second := len(r.commands)
	r.readBlock()
	end := len(r.commands)
	r.redirect(at, second, end)
	r.commands[at].No = second
	r.commands[at].Second = second
	r.commands[at].Behind = end
}

// readLoop takes the body of the loop with the number at. Its end must lead
// back to the test.
func (r *reader) readLoop(at int) {
	r.readBlock()
	end := len(r.commands)
	r.redirect(at, end, at)
	r.commands[at].No = end
}

// redirect lets what follows the commands from number from to number old - 1
// be at number now, where it was at old.
func (r *reader) redirect(from, old, now int) {
	for i := from; i < old; i++ {
		if r.commands[i].Yes == old {
			r.commands[i].Yes = now
		}
		if r.commands[i].No == old {
			r.commands[i].No = now
		}
	}
}
