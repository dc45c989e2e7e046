package stow_test

import (
	"slices"
	"strings"
	"testing"

	"stow/api"
	"stow/stow"
)

// bits makes inputs that are most often 0 or 1, so that an `if` goes both ways.
func (m *maker) bits() []int64 {
	list := make([]int64, m.Intn(40))
	for i := range list {
		list[i] = int64(m.Intn(2))
		if m.Intn(8) == 0 {
			list[i] = int64(m.Intn(9) - 4)
		}
	}
	return list
}

// manyLets makes up to as many locals as may be, of each type at least one.
func (m *maker) manyLets() []string {
	kinds := []string{"int", "box", "pair", "opt"}
	for range m.Intn(api.MaxLocals - len(kinds) + 1) {
		kinds = append(kinds, m.one([]string{"box", "pair", "opt", "opt"}))
	}
	m.Shuffle(len(kinds), func(i, j int) { kinds[i], kinds[j] = kinds[j], kinds[i] })
	m.locals = map[string][]string{}
	var lines []string
	for i, kind := range kinds {
		name := "v" + string(rune('a'+i))
		lines = append(lines, "let "+name+" "+kind)
		m.locals[kind[:1]] = append(m.locals[kind[:1]], name)
		switch kind {
		case "pair":
			m.locals["b"] = append(m.locals["b"], name+".a", name+".b")
		case "opt":
			m.locals["b"] = append(m.locals["b"], name+".s")
		}
	}
	return lines
}

// owning makes a statement that makes, moves or drops what is owned, opts most of all.
func (m *maker) owning() string {
	return m.filled(m.one([]string{"in i", "new b i", "new b i", "move b b", "move p p", "move o o", "move o o", "move o o", "none o", "some o b", "some o b", "drop b", "drop p", "drop o"}))
}

// great makes a program with up to as many blocks and lines as may be. All ints are there from the first lines on.
func (m *maker) great(statement func() string) []string {
	lines := append(m.manyLets(), "block")
	for _, i := range m.locals["i"] {
		lines = append(lines, "in "+i)
	}
	for _, o := range m.locals["o"] {
		if m.Intn(3) > 0 {
			lines = append(lines, "none "+o)
		}
	}
	m.blocks = 1 + m.Intn(api.MaxBlocks)
	spare := api.MaxLines - len(lines) - 2*m.blocks
	for b := range m.blocks {
		if b > 0 {
			lines = append(lines, "block")
		}
		for range m.Intn(1 + min(12, 2*spare/m.blocks)) {
			if spare > 0 {
				lines = append(lines, statement())
				spare--
			}
		}
		lines = append(lines, m.terminator())
	}
	return lines
}

// mended puts another line in place of each one that needs what may not be there.
func (m *maker) mended(lines []string) string {
	for {
		program := strings.Join(lines, "\n")
		e, at := stow.Check(program)
		if e != api.ErrUse {
			return program
		}
		words := strings.Split(lines[at], " ")
		switch {
		case words[0] == "match":
			lines[at] = m.filled("if i " + words[2] + " " + words[3])
		case words[0] == "move" && slices.Contains(m.locals["o"], words[2]):
			lines[at] = "none " + words[2] // so that it can be moved further on
		case m.Intn(3) > 0:
			lines[at] = m.filled(m.one([]string{"new b i", "none o", "some o b", "drop o", "move o o"}))
		default:
			lines[at] = m.filled("in i")
		}
	}
}

// hasNewMatch tells whether a raw program has a match that its program has not.
func hasNewMatch(program, raw string) bool {
	return slices.ContainsFunc(strings.Split(raw, "\n"), func(line string) bool {
		return strings.HasPrefix(line, "match ") && !strings.Contains(program+"\n", "\n"+line+"\n")
	})
}

// TestP8ByChance holds programs against their raw programs, small ones and great ones.
func TestP8ByChance(t *testing.T) {
	m := newMaker(8)
	var count [api.Broken + 1]int
	tests, moved, plain := 0, 0, 0
	for i := range 1500 {
		lines := m.program()
		switch i % 3 {
		case 1:
			lines = m.great(m.statement)
		case 2:
			lines = m.great(m.owning)
		}
		program := m.mended(lines)
		raw := elaborated(t, program)
		switch {
		case hasNewMatch(program, raw):
			moved++
		case hasLine(raw, "test"):
			tests++
		default:
			plain++
		}
		for range 8 {
			r := wantSame(t, program, raw, m.bits(), m.upTo(api.MaxRoom))
			count[r.Outcome]++
			if r.Outcome == api.Tired { // that takes long, and the next run will most often be so too
				break
			}
		}
	}
	for _, o := range []api.Outcome{api.Ended, api.Tired, api.Full, api.Divided} {
		if count[o] < 300 {
			t.Errorf("only %d runs with the outcome %d: chance tells too little", count[o], o)
		}
	}
	if tests < 300 || moved < 50 || plain < 300 {
		t.Errorf("%d raw programs with tests, %d with opts of which the tag tells, %d others: chance tells too little", tests, moved, plain)
	}
}

// TestP8OneBlockByChance: programs of one block that ends.
func TestP8OneBlockByChance(t *testing.T) {
	m := newMaker(9)
	for range 300 {
		lines := append(m.manyLets(), "block")
		for _, i := range m.locals["i"] {
			lines = append(lines, "in "+i)
		}
		for len(lines) < api.MaxLines-1 {
			lines = append(lines, m.owning())
		}
		program := m.mended(append(lines, m.filled("end i")))
		raw := elaborated(t, program)
		for range 4 {
			wantSame(t, program, raw, m.bits(), m.upTo(api.MaxRoom))
		}
	}
}
