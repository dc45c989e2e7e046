// Package flow: what may be where, on whatever way a program comes to a line.
package flow

import "stow/prog"

// May is how a thing may be: a bit for each.
type May uint8

const (
	Gone    May = 1 << iota // an int, a box or a half is not there; an opt is away
	There                   // an int, a box or a half is there; an opt is whole
	Nothing                 // an opt is nothing
	Hollow                  // an opt's content was moved out or dropped
)

// State is what may be where at one moment, slot by slot. One that was never come to has no bits at all.
//
// Each thing is followed by itself. Nothing is lost by that, as what a line makes of a thing hangs on one thing alone.
type State [prog.Slots]May

// Reached tells whether there is a way to where the state is.
func (s *State) Reached() bool { return *s != State{} }

// start is the state ahead of block 0.
func start() State {
	var s State
	for i := range s {
		s[i] = Gone
	}
	return s
}

// take makes what was in the places be gone from there.
func (s *State) take(places ...prog.Place) {
	for _, place := range places {
		if place.Part == prog.Content {
			s[place.Slot()] = Hollow
		} else {
			s[place.Slot()] = Gone
		}
	}
}

// put makes places be as may says.
func (s *State) put(may May, places ...prog.Place) {
	for _, place := range places {
		s[place.Slot()] = may
	}
}

// Pass makes of the state ahead of a line the one behind it, as if what the line needs were there.
func (s *State) Pass(p *prog.Program, line prog.Line) {
	was := *s
	s.Take(p, line)
	w := line.Places
	switch line.Op {
	case prog.Set, prog.Add, prog.Sub, prog.Mul, prog.Div, prog.In, prog.Load, prog.New, prog.Some:
		s.put(There, w[0])
	case prog.Move:
		s.put(was.moved(p, w[1]), p.Halves(w[0])...)
	case prog.None:
		s.put(Nothing, w[0])
	case prog.Drop:
		s.take(p.Halves(w[0])...)
	}
}

// Take goes but half of that way: what the line takes is gone, and nothing is written yet. What is then there where the line writes, is freed.
func (s *State) Take(p *prog.Program, line prog.Line) {
	switch line.Op {
	case prog.Move:
		s.take(p.Halves(line.Places[1])...)
	case prog.Some:
		s.take(line.Places[1])
	}
}

// moved is how a thing may be behind its being moved: an opt is what it was.
func (s *State) moved(p *prog.Program, from prog.Place) May {
	if kind, _ := p.Kind(from); kind == prog.Opt {
		return s[from.Slot()]
	}
	return There
}

// lacks tells whether any of the places may be otherwise than fit says.
func (s *State) lacks(fit May, places ...prog.Place) bool {
	for _, place := range places {
		if s[place.Slot()]&^fit != 0 {
			return true
		}
	}
	return false
}

// faulty tells whether a line needs what may not be there.
func (s *State) faulty(p *prog.Program, line prog.Line) bool {
	w := line.Places
	switch line.Op {
	case prog.Add, prog.Sub, prog.Mul, prog.Div:
		return s.lacks(There, w[1], w[2])
	case prog.Out, prog.If, prog.End:
		return s.lacks(There, w[0])
	case prog.New:
		return s.lacks(There, w[1]) || s.shut(w[0])
	case prog.Load, prog.Some:
		return s.lacks(There, w[1])
	case prog.Store:
		return s.lacks(There, w[0], w[1])
	case prog.Move:
		return s.stuck(p, w[1]) || s.shut(w[0])
	case prog.Drop:
		return s.shut(w[0])
	case prog.Match:
		return s.lacks(There|Nothing, w[0])
	}
	return false
}

// stuck tells whether a thing may be such that it cannot be moved.
func (s *State) stuck(p *prog.Program, place prog.Place) bool {
	if kind, _ := p.Kind(place); kind == prog.Opt {
		return s.lacks(There|Nothing, place)
	}
	return s.lacks(There, p.Halves(place)...)
}

// shut tells whether a place is a content that can be neither written over nor dropped.
func (s *State) shut(place prog.Place) bool {
	return place.Part == prog.Content && s.lacks(There|Hollow, place)
}
