package stow_test

import (
	"math"
	"math/rand"
	"strconv"
	"strings"
	"testing"

	"stow/api"
	"stow/stow"
)

// maker makes programs by chance, the same ones in each run.
type maker struct {
	*rand.Rand
	locals map[string][]string // by what is wanted: i, b (places for boxes), p, o
	blocks int
	raw    bool // whether it makes raw programs
}

func newMaker(seed int64) *maker { return &maker{Rand: rand.New(rand.NewSource(seed))} }

func newRawMaker(seed int64) *maker {
	m := newMaker(seed)
	m.raw = true
	return m
}

func (m *maker) one(of []string) string { return of[m.Intn(len(of))] }

// program makes one whose form, names and types are right, more often than not with all that its lines need.
func (m *maker) program() []string {
	lines := m.lets()
	m.blocks = 1 + m.Intn(5)
	for b := range m.blocks {
		lines = append(lines, "block")
		if b == 0 {
			lines = append(lines, m.prologue()...)
		}
		for range m.Intn(5) {
			lines = append(lines, m.statement())
		}
		lines = append(lines, m.terminator())
	}
	return lines
}

func (m *maker) lets() []string {
	lines := []string{"let n int", "let m int", "let p box", "let x pair", "let o opt", "let q box", "let y pair", "let l opt"}
	lines = lines[:5+m.Intn(4)]
	m.locals = map[string][]string{}
	for _, line := range lines {
		name, kind := line[4:5], line[6:7]
		m.locals[kind] = append(m.locals[kind], name)
		switch kind {
		case "p":
			m.locals["b"] = append(m.locals["b"], name+".a", name+".b")
		case "o":
			m.locals["b"] = append(m.locals["b"], name+".s")
		}
	}
	m.Shuffle(len(lines), func(i, j int) { lines[i], lines[j] = lines[j], lines[i] })
	return lines
}

// prologue brings much there, so that not all programs are wrong.
func (m *maker) prologue() []string {
	lines := []string{"in n", "in m"}
	for _, o := range m.locals["o"] {
		lines = append(lines, "none "+o)
	}
	for _, b := range m.locals["b"] {
		if !strings.HasSuffix(b, ".s") && m.Intn(4) > 0 {
			lines = append(lines, "new "+b+" n")
		}
	}
	return lines
}

func (m *maker) statement() string {
	shapes := []string{"set i 5", "set i -1", "set i 0", "add i i i", "sub i i i", "mul i i i", "div i i i", "in i", "out i", "new b i", "new b i", "load i b", "store b i", "move b b", "move b b", "move p p", "move o o", "none o", "some o b"}
	if m.raw {
		shapes = append(shapes, "free b", "flag 0 1", "flag 1 1", "flag 0 0", "flag 1 0", "flag 49 1")
	} else {
		shapes = append(shapes, "drop b", "drop p", "drop o")
	}
	return m.filled(m.one(shapes))
}

func (m *maker) terminator() string {
	shapes := []string{"goto", "if i", "if i", "match o", "match o", "end i"}
	if m.raw {
		shapes = append(shapes, "test 0", "test 1", "test 49")
	}
	line := m.filled(m.one(shapes))
	count := map[byte]int{'g': 1, 'i': 2, 'm': 2, 't': 2, 'e': 0}[line[0]]
	for range count {
		line += " " + strconv.Itoa(m.Intn(m.blocks))
	}
	return line
}

func (m *maker) filled(shape string) string {
	words := strings.Split(shape, " ")
	for i, word := range words[1:] {
		if of := m.locals[word]; of != nil {
			words[i+1] = m.one(of)
		}
	}
	return strings.Join(words, " ")
}

// numbers makes inputs, odd ones among them.
func (m *maker) numbers() []int64 {
	list := make([]int64, m.Intn(6))
	for i := range list {
		list[i] = []int64{0, 1, -1, 2, 7, math.MinInt64, math.MaxInt64, 1 << 32, m.Int63()}[m.Intn(9)]
	}
	return list
}

// upTo makes a number from 0 to most, more often than not a small one.
func (m *maker) upTo(most int) int {
	switch m.Intn(3) {
	case 0:
		return m.Intn(6)
	case 1:
		return m.Intn(most + 1)
	}
	return most
}

// spoilt changes one thing about a program.
func (m *maker) spoilt(lines []string) string {
	i := m.Intn(len(lines))
	words := strings.Split(lines[i], " ")
	switch m.Intn(8) {
	case 0:
		lines = append(lines[:i:i], lines[i+1:]...)
	case 1:
		j := m.Intn(len(lines))
		lines[i], lines[j] = lines[j], lines[i]
	case 2:
		lines = append(lines[:i+1:i+1], lines[i:]...)
	case 3, 4:
		words[m.Intn(len(words))] = m.one([]string{"n", "p", "x", "o", "z", "x.a", "p.a", "o.s", "x.s", "o.b", "z.s", "n.c", "", "0", "1", "-1", "7", "00", "let", "end", "box", "int", "drop", "move", "free", "flag", "test", "49", "50"})
		lines[i] = strings.Join(words, " ")
	case 5, 6:
		words[len(words)-1] = m.one([]string{"n", "p", "x", "o", "x.a", "o.s", "p.a"})
		lines[i] = strings.Join(words, " ")
	case 7:
		at := m.Intn(len(lines[i]) + 1)
		lines[i] = lines[i][:at] + m.one([]string{" ", "a", ".", "-", "0", "\n", "\t", "é", "\xff"}) + lines[i][at:]
	}
	return strings.Join(lines, "\n")
}

// TestP3ByChance holds Check against the oracle.
func TestP3ByChance(t *testing.T) {
	count := againstOracle(t, "P3: Check", newMaker(1), stow.Check, oracle)
	if count[api.ErrUse] < 300 {
		t.Errorf("only %d programs with a wrong use: chance tells too little", count[api.ErrUse])
	}
}

// TestP6ByChance holds Look against the oracle.
func TestP6ByChance(t *testing.T) {
	againstOracle(t, "P6: Look", newRawMaker(4), stow.Look, oracleRaw)
}

// againstOracle holds a call against another one on programs right and wrong, and counts the answers.
func againstOracle(t *testing.T, name string, m *maker, call, other func(string) (api.Errno, int)) (count [api.ErrConf + 1]int) {
	for i := range 20000 {
		lines := m.program()
		program := strings.Join(lines, "\n")
		if i%2 == 1 {
			program = m.spoilt(lines)
		}
		e, at := call(program)
		if wantE, wantAt := other(program); e != wantE || at != wantAt {
			t.Fatalf("%s(%q) = %d, %d, want %d, %d", name, program, e, at, wantE, wantAt)
		}
		count[e]++
	}
	for _, e := range []api.Errno{api.OK, api.ErrForm, api.ErrName, api.ErrType} {
		if count[e] < 300 {
			t.Errorf("%s: only %d programs with the answer %d: chance tells too little", name, count[e], e)
		}
	}
	return count
}
