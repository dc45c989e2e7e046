// Package prog: programs as they are worked with, and how they are read from a text.
package prog

import "stow/api"

// Type is what a local holds.
type Type int

const (
	Int Type = iota
	Box
	Pair
	Opt
)

// Local is a name with its type.
type Local struct {
	Name string
	Type Type
}

// Part is what of a local is meant.
type Part int

const (
	Self    Part = iota // the local as it is
	HalfA               // .a of a pair
	HalfB               // .b of a pair
	Content             // .s of an opt
)

// Place is a local, by its number, or a part of it.
type Place struct {
	Local int
	Part  Part
}

// Slots is how many slots there are: two a local, of which only a pair has use for the second.
const Slots = 2 * api.MaxLocals

// Slot is where a table of all places has this one. An opt and its content have one slot, as what is to be known of the one tells of the other.
func (place Place) Slot() int {
	if place.Part == HalfB {
		return 2*place.Local + 1
	}
	return 2 * place.Local
}

// Op is what a line does.
type Op int

const (
	Let Op = iota
	Begin
	Set
	Add
	Sub
	Mul
	Div
	In
	Out
	New
	Load
	Store
	Move
	None
	Some
	Drop // of programs that own boxes alone
	Free // of raw programs alone, as Flag and Test
	Flag
	Goto // from here on terminators
	If
	Match
	Test
	End
)

func (op Op) isTerminator() bool { return op >= Goto }

// Line is a statement or a terminator. Places and Next are in the order of its words.
type Line struct {
	At     int // the number of the line in the text
	Op     Op
	Places []Place
	Number int64 // that of a set, or the value of a flag
	Flag   int   // the number of a flag
	Next   []int // numbers of blocks
}

// Block is statements, and the terminator behind them.
type Block []Line

// Program is one, raw or not, whose form, names and types are right.
type Program struct {
	Locals []Local
	Blocks []Block
}

// Kind tells of which type a place is; ok is false, if its local has no such part.
func (p *Program) Kind(place Place) (kind Type, ok bool) {
	whole := p.Locals[place.Local].Type
	switch place.Part {
	case HalfA, HalfB:
		return Box, whole == Pair
	case Content:
		return Box, whole == Opt
	}
	return whole, true
}

// Halves gives a place back, or both halves in its stead, if it is a whole pair: a pair is there, and is moved, half by half.
func (p *Program) Halves(place Place) []Place {
	if place.Part == Self && p.Locals[place.Local].Type == Pair {
		return []Place{{place.Local, HalfA}, {place.Local, HalfB}}
	}
	return []Place{place}
}

// Boxes gives the places for boxes that a thing has: an int none, a box itself, a pair its halves, an opt its content.
func (p *Program) Boxes(thing Place) []Place {
	switch kind, _ := p.Kind(thing); kind {
	case Int:
		return nil
	case Opt:
		return []Place{{thing.Local, Content}}
	}
	return p.Halves(thing)
}
