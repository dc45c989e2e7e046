package prog

import (
	"slices"
	"strings"

	"stow/api"
)

// sentence is a line whose form is right, but of which nothing is looked up yet.
type sentence struct {
	op    Op
	words []string // behind the op's own
}

// dialect is in what programs and raw programs differ.
type dialect struct {
	raw    bool
	lines  int // the most that there may be
	blocks int // the most that there may be
}

// has tells whether a dialect has such lines.
func (d dialect) has(op Op) bool {
	switch op {
	case Drop:
		return !d.raw
	case Free, Flag, Test:
		return d.raw
	}
	return true
}

// Read makes a program of a text, or tells the first error of its length, form, names and types, and the line of it.
func Read(text string) (*Program, api.Errno, int) {
	return dialect{lines: api.MaxLines, blocks: api.MaxBlocks}.read(text)
}

// ReadRaw does the same with the text of a raw program.
func ReadRaw(text string) (*Program, api.Errno, int) {
	return dialect{raw: true, lines: api.MaxRawLines, blocks: api.MaxRawBlocks}.read(text)
}

// read looks for each kind of error in all lines ahead of the next kind, as the one named first is the answer.
func (d dialect) read(text string) (*Program, api.Errno, int) {
	if strings.Count(text, "\n") >= d.lines {
		return nil, api.ErrLong, 0
	}
	sentences, at, ok := d.split(strings.Split(text, "\n"))
	if !ok {
		return nil, api.ErrForm, at
	}
	p, at, ok := lookUp(sentences)
	if !ok {
		return nil, api.ErrName, at
	}
	if at, found := p.misfit(); found {
		return nil, api.ErrType, at
	}
	return p, api.OK, 0
}

// split makes sentences of lines; where it is not ok it gives the line at which the form is broken.
func (d dialect) split(lines []string) (sentences []sentence, at int, ok bool) {
	o := order{dialect: d}
	for i, line := range lines {
		s, formed := sentenceOf(line)
		if !formed || !o.admits(s.op) {
			return nil, i, false
		}
		sentences = append(sentences, s)
	}
	return sentences, len(lines), o.done()
}

// sentenceOf parts one line into words. It looks for one word more than may be, and no further: a line may be of any length.
func sentenceOf(line string) (sentence, bool) {
	words := strings.SplitN(line, " ", mostWords+1)
	op, ok := opOf(words[0])
	if !ok {
		return sentence{}, false
	}
	wants := shapes[op].wants
	words = words[1:]
	if len(words) != len(wants) {
		return sentence{}, false
	}
	for i, word := range words {
		if !isFormed(word, wants[i]) {
			return sentence{}, false
		}
	}
	return sentence{op, words}, true
}

// section is between which lines one stands.
type section int

const (
	amongLocals section = iota
	inBlock
	behindBlock
)

// order follows which lines have come, and tells which may come next.
type order struct {
	dialect dialect
	section section
	locals  int
	blocks  int
}

// admits tells whether a line may stand here, and goes on behind it.
func (o *order) admits(op Op) bool {
	switch {
	case !o.dialect.has(op):
		return false
	case op == Let:
		o.locals++
		return o.section == amongLocals && o.locals <= api.MaxLocals
	case op == Begin:
		fits := o.locals > 0 && o.section != inBlock
		o.section = inBlock
		o.blocks++
		return fits && o.blocks <= o.dialect.blocks
	case o.section != inBlock:
		return false
	case op.isTerminator():
		o.section = behindBlock
	}
	return true
}

// done tells whether a program may end here.
func (o *order) done() bool { return o.section == behindBlock }

// lookUp makes a program of sentences; where it is not ok it gives the first line with a name twice, or of nothing.
func lookUp(sentences []sentence) (p *Program, at int, ok bool) {
	p = &Program{}
	blocks := countBlocks(sentences)
	for i, s := range sentences {
		switch s.op {
		case Let:
			if p.find(s.words[0]) >= 0 {
				return nil, i, false
			}
			t, _ := typeOf(s.words[1])
			p.Locals = append(p.Locals, Local{s.words[0], t})
		case Begin:
			p.Blocks = append(p.Blocks, nil)
		default:
			line, known := p.lineOf(s, blocks)
			if !known {
				return nil, i, false
			}
			line.At = i
			last := len(p.Blocks) - 1
			p.Blocks[last] = append(p.Blocks[last], line)
		}
	}
	return p, 0, true
}

func countBlocks(sentences []sentence) int {
	n := 0
	for _, s := range sentences {
		if s.op == Begin {
			n++
		}
	}
	return n
}

// find gives the number of the local of that name, or -1.
func (p *Program) find(name string) int {
	return slices.IndexFunc(p.Locals, func(l Local) bool { return l.Name == name })
}

// lineOf looks up the words of a statement or terminator; it is not ok, if one names what there is not.
func (p *Program) lineOf(s sentence, blocks int) (line Line, ok bool) {
	line.Op = s.op
	for i, word := range s.words {
		switch shapes[s.op].wants[i] {
		case wantNumber, wantValue:
			line.Number, _ = numberOf(word)
		case wantFlag:
			line.Flag, _ = flagOf(word)
		case wantBlock:
			n, _ := blockOf(word)
			if n >= blocks {
				return Line{}, false
			}
			line.Next = append(line.Next, n)
		default:
			name, part, _ := splitPlace(word)
			local := p.find(name)
			if local < 0 {
				return Line{}, false
			}
			line.Places = append(line.Places, Place{local, part})
		}
	}
	return line, true
}

// misfit finds the first line with something of another type than must be.
func (p *Program) misfit() (at int, found bool) {
	for _, block := range p.Blocks {
		for _, line := range block {
			if !p.fits(line) {
				return line.At, true
			}
		}
	}
	return 0, false
}

// fits tells whether all places of a line are of the types that must be. Places stand ahead of blocks and numbers in every line, so that wants and places go side by side.
func (p *Program) fits(line Line) bool {
	wants := shapes[line.Op].wants
	for i, place := range line.Places {
		kind, ok := p.Kind(place)
		if !ok || !isKind(kind, wants[i]) {
			return false
		}
	}
	return line.Op != Move || p.sameKind(line.Places[0], line.Places[1])
}

func (p *Program) sameKind(one, other Place) bool {
	k, _ := p.Kind(one)
	l, _ := p.Kind(other)
	return k == l
}

func isKind(kind Type, want byte) bool {
	switch want {
	case wantInt:
		return kind == Int
	case wantOpt:
		return kind == Opt
	case wantPlace:
		return kind == Box
	}
	return kind != Int
}
