package machine

import "stow/prog"

// What both machines do alike stands here.

// feed is the inputs that are still to come.
type feed []int64

// take takes the next input.
func (f *feed) take() int64 {
	if len(*f) == 0 {
		return 0
	}
	first := (*f)[0]
	*f = (*f)[1:]
	return first
}

// calculated is one and other, put together as op says. Go's own numbers come in again at the other end, and its least one by -1 is itself.
func calculated(op prog.Op, one, other int64) int64 {
	switch op {
	case prog.Add:
		return one + other
	case prog.Sub:
		return one - other
	case prog.Mul:
		return one * other
	}
	return one / other
}

// way is the first block that a terminator names, or the other one.
func way(line prog.Line, other bool) int {
	if other {
		return line.Next[1]
	}
	return line.Next[0]
}
