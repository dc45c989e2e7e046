// Package stow: programs that own boxes: see DOC.md.
package stow

import (
	"stow/api"
	"stow/elaborate"
	"stow/flow"
	"stow/machine"
	"stow/prog"
)

// Check tells whether a text is a program that uses nothing that may not be there (P3).
func Check(program string) (api.Errno, int) {
	_, e, at := checked(program)
	return e, at
}

// Run runs a program (P4).
func Run(program string, inputs []int64, fuel int, room int) (api.Result, api.Errno, int) {
	p, e, at := checked(program)
	if e != api.OK {
		return api.Result{}, e, at
	}
	if !mayRun(inputs, fuel, api.MaxFuel, room) {
		return api.Result{}, api.ErrConf, 0
	}
	return machine.Run(p, inputs, fuel, room), api.OK, 0
}

// Look tells whether a text is a raw program (P6).
func Look(raw string) (api.Errno, int) {
	_, e, at := prog.ReadRaw(raw)
	return e, at
}

// Exec runs a raw program (P7).
func Exec(raw string, inputs []int64, fuel int, room int) (api.Result, api.Errno, int) {
	p, e, at := prog.ReadRaw(raw)
	if e != api.OK {
		return api.Result{}, e, at
	}
	if !mayRun(inputs, fuel, api.MaxRawFuel, room) {
		return api.Result{}, api.ErrConf, 0
	}
	return machine.Exec(p, inputs, fuel, room), api.OK, 0
}

// Elaborate makes a raw program of a program (P8).
func Elaborate(program string) (string, api.Errno, int) {
	p, e, at := checked(program)
	if e != api.OK {
		return "", e, at
	}
	return elaborate.Raw(p).Text(), api.OK, 0
}

// checked makes a program of a text, or tells the first error of it.
func checked(program string) (*prog.Program, api.Errno, int) {
	p, e, at := prog.Read(program)
	if e != api.OK {
		return nil, e, at
	}
	if at, found := flow.FirstFault(p); found {
		return nil, api.ErrUse, at
	}
	return p, api.OK, 0
}

// mayRun tells whether a run may have these numbers.
func mayRun(inputs []int64, fuel, mostFuel, room int) bool {
	return len(inputs) <= api.MaxInputs && fuel >= 0 && fuel <= mostFuel && room >= 0 && room <= api.MaxRoom
}
