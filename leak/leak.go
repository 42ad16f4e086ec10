// Package leak: what small kernels let be seen: see DOC.md.
package leak

import (
	"leak/api"
	"leak/machine"
	"leak/syntax"
)

// Check tells whether a text is a kernel (P3).
func Check(kernel string) (api.Errno, int) {
	k := syntax.ReadKernel(kernel)
	return k.Error, k.Place
}

// Run runs a kernel (P4).
func Run(kernel string, view int, in []int, fuel int) (api.Result, api.Errno) {
	k := syntax.ReadKernel(kernel)
	if k.Error != api.OK {
		return api.Result{}, k.Error
	}
	e := refusal(k.Head, view, in, fuel)
	if e != api.OK {
		return api.Result{}, e
	}
	return machine.RunKernel(k, view, in, fuel), api.OK
}

// refusal tells why a run may not begin, or OK.
func refusal(h syntax.Head, view int, in []int, fuel int) api.Errno {
	if view < 0 || view > api.MaxView {
		return api.ErrView
	}
	if !h.IsInput(in) {
		return api.ErrInput
	}
	if fuel < 0 || fuel > api.MaxFuel {
		return api.ErrFuel
	}
	return api.OK
}

// CheckCode tells whether a text is a code (P5).
func CheckCode(code string) (api.Errno, int) { return api.OK, 0 }

// Exec runs a code (P6).
func Exec(code string, view int, in []int, fuel int) (api.Result, api.Errno) {
	return api.Result{}, api.OK
}

// Path tells over which lines a code goes (P6).
func Path(code string, in []int, fuel int) ([]int, api.Errno) { return nil, api.OK }

// Lower turns a kernel into a code (P7).
func Lower(kernel string) (string, api.Errno) { return "", api.OK }

// Solve finds values that satisfy clauses (P8).
func Solve(n int, clauses []int) (int, []int, api.Errno) { return 0, nil, api.OK }

// Decide tells whether a kernel is quiet (P9).
func Decide(kernel string, view int) (int, []int, []int, api.Errno) { return 0, nil, nil, api.OK }
