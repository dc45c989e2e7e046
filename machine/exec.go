package machine

import (
	"stow/api"
	"stow/prog"
)

// cell has a number, that of a box, or what a tag says, and is empty until one is written.
type cell struct {
	full  bool
	value int64
}

// What a tag says.
const (
	nothing = 0
	some    = 1
)

// bare is the machine that looks after nothing: it frees what it is told to, and breaks at what must not be taken.
type bare struct {
	yard
	program *prog.Program
	inputs  feed
	cells   [prog.Slots]cell
	tags    [api.MaxLocals]cell
	flags   [api.MaxFlags]bool
}

// Exec runs a raw program from block 0 on.
func Exec(p *prog.Program, inputs []int64, fuel, room int) api.Result {
	m := bare{program: p, inputs: inputs}
	var value int64
	for block := 0; ; {
		for _, line := range p.Blocks[block] {
			if fuel == 0 {
				goto tired
			}
			fuel--
			if m.breaks(line) {
				goto broken
			}
			w := line.Places
			switch line.Op {
			case prog.Div:
				if m.value(w[2]) == 0 {
					goto divided
				}
				m.calculate(line)
			case prog.New:
				if m.live >= room {
					goto full
				}
				m.write(w[0], int64(m.build(m.value(w[1]))))
			case prog.Goto, prog.If, prog.Match, prog.Test:
				block = m.next(line)
			case prog.End:
				value = m.value(w[0])
				goto ended
			default:
				m.do(line)
			}
		}
	}
ended:
	return m.result(api.Ended, value)
tired:
	return m.result(api.Tired, 0)
full:
	return m.result(api.Full, 0)
divided:
	return m.result(api.Divided, 0)
broken:
	return m.result(api.Broken, 0)
}

// breaks tells whether a line takes what must not be taken. It is asked ahead of all else, as a run is Broken in place of whatever else.
func (m *bare) breaks(line prog.Line) bool {
	w := line.Places
	switch line.Op {
	case prog.Add, prog.Sub, prog.Mul, prog.Div:
		return m.empty(w[1], w[2])
	case prog.Out, prog.If, prog.Match, prog.End:
		return m.empty(w[0])
	case prog.New, prog.Some:
		return m.empty(w[1])
	case prog.Move:
		return m.empty(m.program.Halves(w[1])...)
	case prog.Load:
		return m.dead(w[1])
	case prog.Store:
		return m.dead(w[0]) || m.empty(w[1])
	case prog.Free:
		return m.dead(w[0])
	}
	return false
}

// do does a statement behind which the run always goes on.
func (m *bare) do(line prog.Line) {
	w := line.Places
	switch line.Op {
	case prog.Set:
		m.write(w[0], line.Number)
	case prog.Add, prog.Sub, prog.Mul:
		m.calculate(line)
	case prog.In:
		m.write(w[0], m.inputs.take())
	case prog.Out:
		m.putOut(m.value(w[0]))
	case prog.Load:
		m.write(w[0], m.load(m.named(w[1])))
	case prog.Store:
		m.store(m.named(w[0]), m.value(w[1]))
	case prog.Free:
		m.free(m.named(w[0]))
	case prog.Move:
		m.move(w[0], w[1])
	case prog.None:
		m.write(w[0], nothing)
	case prog.Some:
		m.write(w[0], some)
		m.write(contentOf(w[0]), m.value(w[1]))
	case prog.Flag:
		m.flags[line.Flag] = line.Number == 1
	}
}

// cell finds the cell of a place; that of an opt itself is its tag.
func (m *bare) cell(place prog.Place) *cell {
	if m.isTag(place) {
		return &m.tags[place.Local]
	}
	return &m.cells[place.Slot()]
}

func (m *bare) isTag(place prog.Place) bool {
	kind, _ := m.program.Kind(place)
	return kind == prog.Opt
}

func contentOf(opt prog.Place) prog.Place { return prog.Place{Local: opt.Local, Part: prog.Content} }

// empty tells whether any of the places has nothing in its cell.
func (m *bare) empty(places ...prog.Place) bool {
	for _, place := range places {
		if !m.cell(place).full {
			return true
		}
	}
	return false
}

// dead tells whether a place has no live box in its cell.
func (m *bare) dead(place prog.Place) bool { return m.empty(place) || !m.isLive(m.named(place)) }

func (m *bare) value(place prog.Place) int64 { return m.cell(place).value }

// named is the box that a cell names.
func (m *bare) named(place prog.Place) int { return int(m.value(place)) }

func (m *bare) write(place prog.Place, value int64) { *m.cell(place) = cell{true, value} }

func (m *bare) calculate(line prog.Line) {
	w := line.Places
	m.write(w[0], calculated(line.Op, m.value(w[1]), m.value(w[2])))
}

// move copies cells. A tag that says some was written together with a content, so that this is not empty.
func (m *bare) move(to, from prog.Place) {
	halves := m.program.Halves(to)
	for i, half := range m.program.Halves(from) {
		m.write(halves[i], m.value(half))
	}
	if m.isTag(from) && m.value(from) == some {
		m.write(contentOf(to), m.value(contentOf(from)))
	}
}

// next is the block that comes behind a terminator.
func (m *bare) next(line prog.Line) int {
	other := false
	switch line.Op {
	case prog.If:
		other = m.value(line.Places[0]) == 0
	case prog.Match:
		other = m.value(line.Places[0]) == some
	case prog.Test:
		other = !m.flags[line.Flag]
	}
	return way(line, other)
}
