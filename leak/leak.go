// Package leak: what small kernels let be seen: see DOC.md.
package leak

import (
	"leak/api"
	"leak/lower"
	"leak/machine"
	"leak/quiet"
	"leak/solver"
	"leak/syntax"
)

// Check tells whether a text is a kernel (P3).
func Check(kernel string) (api.Errno, int) {
	k := syntax.ReadKernel(kernel)
	return k.Error, k.Place
}

// Run runs a kernel (P4).
func Run(kernel string, view int, in []int, fuel int) (api.Result, api.Errno) {
	return run(syntax.ReadKernel(kernel), view, in, fuel)
}

func run(p syntax.Program, view int, in []int, fuel int) (api.Result, api.Errno) {
	e := refusal(p, view, in, fuel)
	if e != api.OK {
		return api.Result{}, e
	}
	return machine.Run(p, view, in, fuel), api.OK
}

// refusal tells why a run may not begin, or OK.
func refusal(p syntax.Program, view int, in []int, fuel int) api.Errno {
	if p.Error != api.OK {
		return p.Error
	}
	if view < 0 || view > api.MaxView {
		return api.ErrView
	}
	if !p.Head.IsInput(in) {
		return api.ErrInput
	}
	if fuel < 0 || fuel > api.MaxFuel {
		return api.ErrFuel
	}
	return api.OK
}

// CheckCode tells whether a text is a code (P5).
func CheckCode(code string) (api.Errno, int) {
	c := syntax.ReadCode(code)
	return c.Error, c.Place
}

// Exec runs a code (P6).
func Exec(code string, view int, in []int, fuel int) (api.Result, api.Errno) {
	return run(syntax.ReadCode(code), view, in, fuel)
}

// Path tells over which lines a code goes (P6).
func Path(code string, in []int, fuel int) ([]int, api.Errno) {
	c := syntax.ReadCode(code)
	e := refusal(c, api.Base, in, fuel)
	if e != api.OK {
		return nil, e
	}
	return machine.Path(c, in, fuel), api.OK
}

// Lower turns a kernel into a code (P7).
func Lower(kernel string) (string, api.Errno) {
	k := syntax.ReadKernel(kernel)
	if k.Error != api.OK {
		return "", k.Error
	}
	return lower.Code(k), api.OK
}

// Solve finds values that satisfy clauses (P8).
func Solve(n int, clauses []int) (int, []int, api.Errno) {
	if !solver.AreClauses(n, clauses) {
		return 0, nil, api.ErrClause
	}
	s := solver.New(n)
	s.AddAll(clauses)
	if !s.Solve() {
		return api.None, nil, api.OK
	}
	return api.Found, s.Values(), api.OK
}

// Decide tells whether a kernel is quiet (P9).
func Decide(kernel string, view int) (int, []int, []int, api.Errno) {
	k := syntax.ReadKernel(kernel)
	switch {
	case k.Error != api.OK:
		return 0, nil, nil, k.Error
	case view < 0 || view > api.MaxView:
		return 0, nil, nil, api.ErrView
	case k.HasLoop():
		return 0, nil, nil, api.ErrLoop
	}
	isQuiet, x, y := quiet.Decide(k, view)
	if isQuiet {
		return api.Yes, nil, nil, api.OK
	}
	return api.No, x, y, api.OK
}
