// Package elaborate: raw programs, made of programs that own boxes.
package elaborate

import (
	"slices"

	"stow/flow"
	"stow/prog"
)

// maker puts a raw program together.
//
// Block b of the program begins as block b of the raw one, so that its ways on can stay as they are; what lies behind a fork comes into blocks behind those.
type maker struct {
	program *prog.Program
	entry   []flow.State     // what may be where ahead of each block
	unsure  [prog.Slots]bool // where something is freed that may be there or not; flag i is 1 as long as there is a box in such a slot i
	blocks  []prog.Block
	at      int // the block that lines are put into
}

// Raw makes a raw program of one in which no line needs what may not be there.
//
// It need not ask how great that is: an end makes at most 111 lines and 44 blocks (of 22 places), any other line at most 15 lines and 4 blocks (a move of pairs), so that 120 lines with 20 ends make fewer than 4000 lines and 2000 blocks; and no line takes more than 67 fuel in place of one.
func Raw(p *prog.Program) *prog.Program {
	m := maker{program: p, entry: flow.Entries(p), blocks: make([]prog.Block, len(p.Blocks))}
	for b := range p.Blocks {
		m.askBlock(b)
	}
	for b := range p.Blocks {
		m.makeBlock(b)
	}
	return &prog.Program{Locals: p.Locals, Blocks: m.blocks}
}

// askBlock finds out where a block frees what may be there or not.
func (m *maker) askBlock(b int) {
	s := m.entry[b]
	for _, line := range m.program.Blocks[b] {
		taken := s
		taken.Take(m.program, line)
		for _, place := range m.freed(line) {
			if isUnsure(taken, place) {
				m.unsure[place.Slot()] = true
			}
		}
		s.Pass(m.program, line)
	}
}

// makeBlock makes a block. Of one that is never come to only the number is needed.
func (m *maker) makeBlock(b int) {
	m.at = b
	s := m.entry[b]
	if !s.Reached() {
		m.put(toBlock(b))
		return
	}
	for _, line := range m.program.Blocks[b] {
		m.makeLine(s, line)
		s.Pass(m.program, line)
	}
}

// makeLine makes what comes in place of a line: what it frees, itself, and what is there now. A drop is nothing but what it frees.
func (m *maker) makeLine(s flow.State, line prog.Line) {
	taken, behind := s, s
	taken.Take(m.program, line)
	behind.Pass(m.program, line)
	m.free(taken, m.freed(line)...)
	if line.Op != prog.Drop {
		m.put(line)
	}
	m.setFlags(s, behind)
	if line.Op == prog.Move {
		m.setMoved(behind, line.Places[0])
	}
}

// freed gives the places, in their order, of which a line frees what is there behind its taking.
func (m *maker) freed(line prog.Line) []prog.Place {
	switch line.Op {
	case prog.New, prog.Move, prog.None, prog.Some, prog.Drop:
		return m.program.Boxes(line.Places[0])
	case prog.End:
		return m.all()
	}
	return nil
}

// all gives all places for boxes, those of the last local first.
func (m *maker) all() []prog.Place {
	var places []prog.Place
	for i := range slices.Backward(m.program.Locals) {
		places = append(places, m.program.Boxes(prog.Place{Local: i})...)
	}
	return places
}

// isUnsure tells whether a box may be in a place or not.
func isUnsure(s flow.State, place prog.Place) bool {
	may := s[place.Slot()]
	return may&flow.There != 0 && may != flow.There
}

// free frees what is in the places, if anything is.
func (m *maker) free(s flow.State, places ...prog.Place) {
	for _, place := range places {
		free := prog.Line{Op: prog.Free, Places: []prog.Place{place}}
		switch {
		case isUnsure(s, place):
			m.fork(prog.Line{Op: prog.Test, Flag: place.Slot()}, free)
		case s[place.Slot()] == flow.There:
			m.put(free)
		}
	}
}

// setFlags sets the flags that are to be otherwise behind a line than ahead of it. Where it was sure ahead, and is the same behind, the flag says so already.
func (m *maker) setFlags(ahead, behind flow.State) {
	for slot, unsure := range m.unsure {
		was, is := ahead[slot], behind[slot]
		switch {
		case !unsure:
		case is == flow.There && was != flow.There:
			m.put(flag(slot, 1))
		case is&flow.There == 0 && was&flow.There != 0:
			m.put(flag(slot, 0))
		}
	}
}

// setMoved sets the flag of an opt that may be nothing or whole behind its being moved: its tag alone can tell which.
func (m *maker) setMoved(behind flow.State, to prog.Place) {
	if m.unsure[to.Slot()] && isUnsure(behind, to) {
		m.put(flag(to.Slot(), 1))
		m.fork(prog.Line{Op: prog.Match, Places: []prog.Place{to}}, flag(to.Slot(), 0))
	}
}

// fork ends the block at hand. The first way on of the terminator leads by the lines that are aside, the second one past them.
func (m *maker) fork(terminator prog.Line, aside ...prog.Line) {
	side, rest := len(m.blocks), len(m.blocks)+1
	m.blocks = append(m.blocks, nil, nil)
	terminator.Next = []int{side, rest}
	m.put(terminator)
	m.at = side
	m.put(append(aside, toBlock(rest))...)
	m.at = rest
}

// put puts lines into the block at hand. All lines of a raw program come by here.
func (m *maker) put(lines ...prog.Line) {
	m.blocks[m.at] = append(m.blocks[m.at], lines...)
}

func flag(number int, value int64) prog.Line {
	return prog.Line{Op: prog.Flag, Flag: number, Number: value}
}

func toBlock(b int) prog.Line { return prog.Line{Op: prog.Goto, Next: []int{b}} }
