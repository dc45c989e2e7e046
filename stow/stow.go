// Package stow: programs that own boxes: see DOC.md.
package stow

import (
	"stow/api"
	"stow/flow"
	"stow/prog"
)

// Check tells whether a text is a program that uses nothing that may not be there (P3).
func Check(program string) (api.Errno, int) {
	p, e, at := prog.Read(program)
	if e != api.OK {
		return e, at
	}
	if at, found := flow.FirstFault(p); found {
		return api.ErrUse, at
	}
	return api.OK, 0
}

// Run runs a program (P4).
func Run(program string, inputs []int64, fuel int, room int) (api.Result, api.Errno, int) {
	return api.Result{}, api.OK, 0
}

// Look tells whether a text is a raw program (P6).
func Look(raw string) (api.Errno, int) { return api.OK, 0 }

// Exec runs a raw program (P7).
func Exec(raw string, inputs []int64, fuel int, room int) (api.Result, api.Errno, int) {
	return api.Result{}, api.OK, 0
}

// Elaborate makes a raw program of a program (P8).
func Elaborate(program string) (string, api.Errno, int) { return "", api.OK, 0 }
