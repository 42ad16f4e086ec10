package leak_test

import (
	"fmt"
	"math/bits"
	"math/rand"
	"strconv"
	"strings"

	"leak/api"
)

// These are second workings of the document, done otherwise than by the
// program, to hold the program's answers against.

const operations = "+-&|^<=UD/%"

// place tells the place of the first byte that cannot stand, or -1 for a
// kernel.
func place(text string) int { return placeBehindHead(text, 'B') }

// codePlace is the same for a code, without a look at where its lines go on.
func codePlace(text string) int { return placeBehindHead(text, 'K') }

// placeBehindHead keeps a stack of what must come, signs of a grammar on top of
// each other, the next one last. The sign for what comes behind the head is
// handed over.
func placeBehindHead(text string, behind byte) int {
	vars, words := 0, 0
	stack := []byte{behind, ':', 'M', '/', 'L', 'W'}
	for at := 0; at < len(text); at++ {
		b := text[at]
		letter := b == 'p' || b == 's'
		variable := vars > 0 && b >= 'a' && b < 'a'+byte(vars)
		for again := true; again; {
			again = false
			if len(stack) == 0 {
				return at
			}
			top := stack[len(stack)-1]
			stack = stack[:len(stack)-1]
			ok := b == top && strings.IndexByte("()/:", b) >= 0
			switch top {
			case 'W':
				ok = b >= '1' && b <= '8'
			case 'L': // a first letter, then more
				ok = letter
				vars++
				stack = append(stack, 'l')
			case 'l':
				ok = letter && vars < 8
				if ok {
					vars++
					stack = append(stack, 'l')
				} else {
					again = true
				}
			case 'M':
				ok = letter && words < 16
				if ok {
					words++
					stack = append(stack, 'M')
				} else {
					again = true
				}
			case 'V':
				ok = variable
			case 'X':
				ok = variable || b >= '0' && b <= '9'
			case 'O':
				ok = strings.IndexByte(operations, b) >= 0
			case 'N':
				ok = b >= '0' && b <= '9' || b >= 'a' && b <= 'f'
			case 'K', 'k': // a first line, then more
				ok = true
				stack = append(stack, 'k')
				switch b {
				case '=':
					stack = append(stack, "XOXV"...)
				case 'l':
					stack = append(stack, "XV"...)
				case 's':
					stack = append(stack, "XX"...)
				case 'z':
					stack = append(stack, "NNX"...)
				case 'j':
					stack = append(stack, "NN"...)
				case 'h':
				default:
					return at
				}
			case 'B':
				ok = true
				switch b {
				case '=':
					stack = append(stack, "BXOXV"...)
				case 'l':
					stack = append(stack, "BXV"...)
				case 's':
					stack = append(stack, "BXX"...)
				case '?':
					stack = append(stack, "B)B()B(X"...)
				case '!':
					stack = append(stack, "B)B(X"...)
				default:
					again = true
				}
			}
			if !ok && !again {
				return at
			}
		}
	}
	if string(stack) != "B" && string(stack) != "k" {
		return len(text)
	}
	return -1
}

// shape is a head taken apart.
type shape struct {
	width, vars, words int
}

func shapeOf(kernel string) (shape, string) {
	slash := strings.IndexByte(kernel, '/')
	colon := strings.IndexByte(kernel, ':')
	return shape{int(kernel[0] - '0'), slash - 1, colon - slash - 1}, kernel[colon+1:]
}

// walker runs a body by walking over its text.
type walker struct {
	shape
	view, fuel int
	r          api.Result
	seen       strings.Builder
}

// runByText tells the result of a run of a right kernel with right arguments.
func runByText(kernel string, view int, in []int, fuel int) api.Result {
	s, body := shapeOf(kernel)
	w := walker{shape: s, view: view, fuel: fuel}
	w.r.State = append(w.r.State, in...)
	w.walk(body)
	if w.r.Tag == 0 {
		w.r.Tag = api.Halt
	}
	w.r.Seen = w.seen.String()
	return w.r
}

// block tells the body between the bracket that text begins with and the one
// that closes it, and what stands behind.
func block(text string) (string, string) {
	depth := 0
	for i := range text {
		switch text[i] {
		case '(':
			depth++
		case ')':
			depth--
			if depth == 0 {
				return text[1:i], text[i+1:]
			}
		}
	}
	return "", ""
}

func (w *walker) operand(b byte) int {
	if b >= 'a' {
		return w.r.State[b-'a']
	}
	return int(b-'0') % (1 << w.width)
}

// step tells whether the run may take a step, and counts it.
func (w *walker) step() bool {
	if w.r.Steps == w.fuel {
		w.r.Tag = api.Fuel
		return false
	}
	w.r.Steps++
	return true
}

// walk does a body and tells whether the run goes on behind it.
func (w *walker) walk(body string) bool {
	for body != "" {
		if !w.step() {
			return false
		}
		switch body[0] {
		case '=':
			if !w.do(body[:5]) {
				return false
			}
			body = body[5:]
		case 'l', 's':
			if !w.do(body[:3]) {
				return false
			}
			body = body[3:]
		case '?':
			first, rest := block(body[2:])
			second, rest := block(rest)
			if !w.test(body[1]) {
				first = second
			}
			if !w.walk(first) {
				return false
			}
			body = rest
		case '!':
			inner, rest := block(body[2:])
			if !w.test(body[1]) {
				body = rest
			} else if !w.walk(inner) {
				return false
			}
		}
	}
	return true
}

// do does a set, a load or a store and tells whether the run goes on.
func (w *walker) do(command string) bool {
	switch command[0] {
	case '=':
		return w.set(command[1]-'a', w.operand(command[2]), command[3], w.operand(command[4]))
	case 'l':
		at := w.operand(command[2])
		if !w.touch(at) {
			return false
		}
		w.r.State[command[1]-'a'] = w.r.State[w.vars+at]
	case 's':
		at := w.operand(command[1])
		if !w.touch(at) {
			return false
		}
		w.r.State[w.vars+at] = w.operand(command[2])
	}
	return true
}

// linesOf takes the lines of a code apart.
func linesOf(lines string) []string {
	var l []string
	for lines != "" {
		size := map[byte]int{'=': 5, 'l': 3, 's': 3, 'z': 4, 'j': 3, 'h': 1}[lines[0]]
		l = append(l, lines[:size])
		lines = lines[size:]
	}
	return l
}

// goesTo tells the number at the end of a line z or j.
func goesTo(line string) int {
	n, _ := strconv.ParseInt(line[len(line)-2:], 16, 0)
	return int(n)
}

// execByText tells the result of a run of a right code with right arguments,
// and its path.
func execByText(code string, view int, in []int, fuel int) (api.Result, []int) {
	s, body := shapeOf(code)
	w := walker{shape: s, view: view, fuel: fuel}
	w.r.State = append(w.r.State, in...)
	lines := linesOf(body)
	var path []int
	for at := 0; w.step(); {
		path = append(path, at)
		at = w.line(lines[at], at)
		if w.r.Tag != 0 {
			break
		}
	}
	w.r.Seen = w.seen.String()
	return w.r, path
}

// line does a line and tells where the run goes on.
func (w *walker) line(line string, at int) int {
	switch line[0] {
	case 'h':
		w.r.Tag = api.Halt
	case 'j':
		return goesTo(line)
	case 'z':
		if !w.test(line[1]) {
			return goesTo(line)
		}
	default:
		w.do(line)
	}
	return at + 1
}

func (w *walker) test(x byte) bool {
	if w.operand(x) == 0 {
		w.seen.WriteString("f")
		return false
	}
	w.seen.WriteString("t")
	return true
}

func (w *walker) touch(x int) bool {
	line := x
	if w.view >= 2 {
		line = x >> (w.view - 2)
	}
	fmt.Fprintf(&w.seen, "m%02x", line)
	if x >= w.words {
		w.seen.WriteString("o")
		w.r.Tag = api.Trap
		return false
	}
	return true
}

func (w *walker) set(v byte, x int, operation byte, y int) bool {
	if operation == '/' || operation == '%' {
		sign := "v"
		if y == 0 {
			sign = "x"
			w.r.Tag = api.Trap
		}
		w.seen.WriteString(sign)
		if w.view == 1 {
			fmt.Fprintf(&w.seen, "%d%d", bits.Len(uint(x)), bits.Len(uint(y)))
		}
		if y == 0 {
			return false
		}
	}
	mask := 1<<w.width - 1
	one := func(yes bool) int {
		if yes {
			return 1
		}
		return 0
	}
	switch operation {
	case '+':
		x = (x + y) & mask
	case '-':
		x = (x - y) & mask
	case '&':
		x &= y
	case '|':
		x |= y
	case '^':
		x ^= y
	case '<':
		x = one(x < y)
	case '=':
		x = one(x == y)
	case 'U':
		x = int(uint64(x)<<uint(y)) & mask
	case 'D':
		x >>= uint(y)
	case '/':
		x /= y
	case '%':
		x %= y
	}
	w.r.State[v] = x
	return true
}

// maker makes kernels and inputs by a fixed row of chances.
type maker struct {
	*rand.Rand
	shape
}

func (m *maker) letters(n int) string {
	s := make([]byte, n)
	for i := range s {
		s[i] = "ps"[m.Intn(2)]
	}
	return string(s)
}

func (m *maker) head() string {
	m.shape = shape{1 + m.Intn(8), 1 + m.Intn(8), m.Intn(17)}
	if m.Intn(2) == 0 { // few values: runs that trap less and loop less
		m.shape = shape{1 + m.Intn(4), 1 + m.Intn(3), m.Intn(17)}
	}
	return fmt.Sprintf("%d%s/%s:", m.width, m.letters(m.vars), m.letters(m.words))
}

func (m *maker) kernel() string {
	for {
		k := m.head() + m.body(4)
		if len(k) <= api.MaxText {
			return k
		}
	}
}

// code makes a code. All its lines go on at lines that are there.
func (m *maker) code() string {
	for {
		c := m.head()
		n := 1 + m.Intn(9)
		if m.Intn(8) == 0 {
			n = 1 + m.Intn(300)
		}
		for i := 0; i < n; i++ {
			c += m.line(i, n)
		}
		if len(c) <= api.MaxCode {
			return c
		}
	}
}

// line makes the line with the number at of n lines.
func (m *maker) line(at, n int) string {
	to := fmt.Sprintf("%02x", m.Intn(min(n, 256)))
	kind := m.Intn(12)
	if at == n-1 {
		kind = 10 + m.Intn(2)
	}
	switch kind {
	case 7, 8, 9:
		return "z" + m.operand() + to
	case 10:
		return "j" + to
	case 11:
		if at == n-1 || m.Intn(2) == 0 {
			return "h"
		}
	}
	return m.plain(kind)
}

func (m *maker) variable() string { return string(rune('a' + m.Intn(m.vars))) }

func (m *maker) operand() string {
	if m.Intn(3) == 0 {
		return string(rune('0' + m.Intn(10)))
	}
	return m.variable()
}

func (m *maker) body(depth int) string {
	s := ""
	for n := m.Intn(6); n > 0; n-- {
		kind := m.Intn(8)
		if depth == 0 {
			kind %= 6
		}
		switch kind {
		case 6:
			s += "?" + m.operand() + "(" + m.body(depth-1) + ")(" + m.body(depth-1) + ")"
		case 7:
			s += "!" + m.operand() + "(" + m.body(depth-1) + ")"
		default:
			s += m.plain(kind)
		}
	}
	return s
}

// plain makes a set, a load or a store.
func (m *maker) plain(kind int) string {
	switch kind {
	case 4:
		return "l" + m.variable() + m.operand()
	case 5:
		return "s" + m.operand() + m.operand()
	}
	return "=" + m.variable() + m.operand() + string(operations[m.Intn(len(operations))]) + m.operand()
}

// input makes an input of the kernel or code that was made last.
func (m *maker) input() []int {
	in := make([]int, m.vars+m.words)
	most := 1 << m.width
	if m.Intn(2) == 0 { // small values, which name words that are there
		most = min(most, 1+m.words)
	}
	for i := range in {
		in[i] = m.Intn(most)
	}
	return in
}

// codeAnswer tells what CheckCode must answer.
func codeAnswer(text string) (api.Errno, int) {
	if len(text) > api.MaxCode {
		return api.ErrLong, 0
	}
	if at := codePlace(text); at >= 0 {
		return api.ErrForm, at
	}
	_, body := shapeOf(text)
	lines := linesOf(body)
	for i, line := range lines {
		if strings.IndexByte("zj", line[0]) >= 0 && goesTo(line) >= len(lines) {
			return api.ErrJump, i
		}
	}
	if strings.IndexByte("hj", lines[len(lines)-1][0]) < 0 {
		return api.ErrJump, len(lines)
	}
	return api.OK, 0
}
