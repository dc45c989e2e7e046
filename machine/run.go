package machine

import (
	"slices"

	"stow/api"
	"stow/prog"
)

// noBox stands in a slot that has nothing.
const noBox = 0

// owner is the machine that knows what is where, and frees by itself.
type owner struct {
	yard
	program *prog.Program
	inputs  feed
	ints    [api.MaxLocals]int64
	boxes   [prog.Slots]int // an opt without a content has noBox, whether it is nothing, hollow or away
}

// Run runs a program from block 0 on. It does not ask whether what a line needs is there: that must be known ahead.
func Run(p *prog.Program, inputs []int64, fuel, room int) api.Result {
	m := owner{program: p, inputs: inputs}
	var value int64
	for block := 0; ; {
		for _, line := range p.Blocks[block] {
			if fuel == 0 {
				goto tired
			}
			fuel--
			w := line.Places
			switch line.Op {
			case prog.Div:
				if m.number(w[2]) == 0 {
					goto divided
				}
				m.calculate(line)
			case prog.New:
				m.drop(w[0])
				if m.live >= room {
					goto full
				}
				m.boxes[w[0].Slot()] = m.build(m.number(w[1]))
			case prog.Goto, prog.If, prog.Match:
				block = m.next(line)
			case prog.End:
				value = m.number(w[0])
				m.dropAll()
				goto ended
			default:
				m.do(line)
			}
		}
	}
ended:
	return m.result(api.Ended, value)
tired:
	return m.result(api.Tired, 0)
full:
	return m.result(api.Full, 0)
divided:
	return m.result(api.Divided, 0)
}

// do does a statement behind which the run always goes on.
func (m *owner) do(line prog.Line) {
	w := line.Places
	switch line.Op {
	case prog.Set:
		m.ints[w[0].Local] = line.Number
	case prog.Add, prog.Sub, prog.Mul:
		m.calculate(line)
	case prog.In:
		m.ints[w[0].Local] = m.inputs.take()
	case prog.Out:
		m.putOut(m.number(w[0]))
	case prog.Load:
		m.ints[w[0].Local] = m.load(m.box(w[1]))
	case prog.Store:
		m.store(m.box(w[0]), m.number(w[1]))
	case prog.Move, prog.Some:
		m.move(m.program.Halves(w[0]), m.program.Halves(w[1]))
	case prog.None, prog.Drop:
		m.drop(m.program.Halves(w[0])...)
	}
}

func (m *owner) number(place prog.Place) int64 { return m.ints[place.Local] }

func (m *owner) box(place prog.Place) int { return m.boxes[place.Slot()] }

func (m *owner) calculate(line prog.Line) {
	w := line.Places
	m.ints[w[0].Local] = calculated(line.Op, m.number(w[1]), m.number(w[2]))
}

// take empties places, and gives what was in them.
func (m *owner) take(places ...prog.Place) []int {
	var taken []int
	for _, place := range places {
		taken = append(taken, m.box(place))
		m.boxes[place.Slot()] = noBox
	}
	return taken
}

// drop empties places, and frees what was in them.
func (m *owner) drop(places ...prog.Place) {
	for _, box := range m.take(places...) {
		if box != noBox {
			m.free(box)
		}
	}
}

// move takes ahead of freeing what is written over: both may be the same.
func (m *owner) move(to, from []prog.Place) {
	taken := m.take(from...)
	m.drop(to...)
	for i, place := range to {
		m.boxes[place.Slot()] = taken[i]
	}
}

// dropAll drops all locals, the last one first.
func (m *owner) dropAll() {
	for i := range slices.Backward(m.program.Locals) {
		m.drop(m.program.Halves(prog.Place{Local: i})...)
	}
}

// next is the block that comes behind a terminator.
func (m *owner) next(line prog.Line) int {
	other := false
	switch line.Op {
	case prog.If:
		other = m.number(line.Places[0]) == 0
	case prog.Match:
		other = m.box(line.Places[0]) != noBox
	}
	return way(line, other)
}
