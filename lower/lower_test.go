package lower

import (
	"strings"
	"testing"

	"leak/syntax"
)

func TestCode(t *testing.T) {
	for _, c := range []struct{ kernel, code string }{
		{"1ps/p:", "1ps/p:h"},
		{"1ps/p:=ab%3lb0s1a", "1ps/p:=ab%1lb0s1ah"},
		{"2s/:!a(=aa-1)", "2s/:za03=aa-1j00h"},
		{"2s/:!a()", "2s/:za02j00h"},
		{"2s/:!a(!a())", "2s/:za03za00j01h"},
		{"2s/:?a()()", "2s/:za01h"},
		{"2s/:?a(=a1+0)()", "2s/:za02=a1+0h"},
		{"2s/:?a()(=a1+0)", "2s/:za02j03=a1+0h"},
		{"2s/:?a(=a1+0)(=a2+0)", "2s/:za03=a1+0j04=a2+0h"},
		{"2s/:?a(?a(=a1+0)())(=a2+0)", "2s/:za04za05=a1+0j05=a2+0h"},
	} {
		if code := Code(syntax.ReadKernel(c.kernel)); code != c.code {
			t.Errorf("P7: the code of %q is %q, want %q", c.kernel, code, c.code)
		}
	}
}

// TestMostLines: a loop with nothing in it becomes the most lines for its bytes.
func TestMostLines(t *testing.T) {
	code := Code(syntax.ReadKernel("1p/:" + strings.Repeat("!a()", 74)))
	c := syntax.ReadCode(code)
	if len(c.Commands) != 149 || !strings.HasSuffix(code, "za94j92h") {
		t.Errorf("P7: %d lines: %q", len(c.Commands), code)
	}
}
