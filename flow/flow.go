package flow

import "stow/prog"

// ways is what is known of all ways through a program so far.
type ways struct {
	program *prog.Program
	entry   []State          // what may be where ahead of each block
	open    map[int]struct{} // the blocks that are still to be gone through
}

// waysOf goes all ways through a program.
func waysOf(p *prog.Program) ways {
	w := ways{p, make([]State, len(p.Blocks)), map[int]struct{}{}}
	w.follow()
	return w
}

// Entries gives what may be where ahead of each block.
func Entries(p *prog.Program) []State { return waysOf(p).entry }

// FirstFault finds the first line that can be come to, and needs what may not be there.
func FirstFault(p *prog.Program) (at int, found bool) {
	w := waysOf(p)
	return w.firstFault()
}

// follow goes from block to block as long as anything changes. It comes to an end, as bits are only ever added.
func (w *ways) follow() {
	w.lead(0, start())
	for len(w.open) > 0 {
		w.goThrough(w.takeLeast())
	}
}

// takeLeast takes the least block out of those that are open.
func (w *ways) takeLeast() int {
	least := len(w.entry)
	for b := range w.open {
		least = min(least, b)
	}
	delete(w.open, least)
	return least
}

// lead joins a way into a block, which is open again, if that brings anything new.
func (w *ways) lead(to int, s State) {
	joined := w.entry[to]
	for i := range joined {
		joined[i] |= s[i]
	}
	if joined != w.entry[to] {
		w.entry[to] = joined
		w.open[to] = struct{}{}
	}
}

// goThrough leads from the entry of a block to all that come next.
func (w *ways) goThrough(b int) {
	s := w.entry[b]
	for _, line := range w.program.Blocks[b] {
		s.Pass(w.program, line)
		for i, next := range line.Next {
			if line.Op == prog.Match {
				s.put(matched(i), line.Places[0])
			}
			w.lead(next, s)
		}
	}
}

// matched is how the opt of a match is in the first and in the second block that it names.
func matched(i int) May {
	if i == 0 {
		return Nothing
	}
	return There
}

// firstFault goes once more through the blocks that can be come to. Lines go up with the blocks, so that behind the first fault no other one is asked for.
func (w *ways) firstFault() (at int, found bool) {
	for b, s := range w.entry {
		if s.Reached() {
			w.open[b] = struct{}{}
		}
	}
	for len(w.open) > 0 {
		at, found = w.faultIn(w.takeLeast())
		if found {
			clear(w.open)
		}
	}
	return at, found
}

// faultIn finds the first line of a block that needs what may not be there.
func (w *ways) faultIn(b int) (at int, found bool) {
	s := w.entry[b]
	for _, line := range w.program.Blocks[b] {
		if s.faulty(w.program, line) {
			return line.At, true
		}
		s.Pass(w.program, line)
	}
	return 0, false
}
