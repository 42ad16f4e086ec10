package syntax

import "leak/api"

// Program is a kernel or a code as it was read. Its commands stand in the order
// of the text (of a kernel, the bodies of branches and loops among them), and
// each names the ones that may follow it; the number of commands stands for the
// end.
type Program struct {
	Error    api.Errno // if it is not OK, there is neither kernel nor code
	Place    int       // with ErrForm: of the first byte that cannot stand there; with ErrJump: the number that is told
	Head     Head
	Commands []Command
}

// HasLoop tells whether there is a loop among the commands.
func (p Program) HasLoop() bool {
	for i := 0; i < len(p.Commands); i++ {
		if p.Commands[i].Kind == Loop {
			return true
		}
	}
	return false
}
