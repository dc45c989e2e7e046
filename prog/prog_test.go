package prog

import (
	"reflect"
	"slices"
	"strings"
	"testing"

	"stow/api"
)

func TestReadMakesAProgram(t *testing.T) {
	p, e, at := Read("let n int\nlet x pair\nlet o opt\nblock\nset n -7\nmove x.b o.s\nif n 1 0\nblock\nend n")
	want := &Program{
		Locals: []Local{{"n", Int}, {"x", Pair}, {"o", Opt}},
		Blocks: []Block{
			{
				{At: 4, Op: Set, Places: []Place{{0, Self}}, Number: -7},
				{At: 5, Op: Move, Places: []Place{{1, HalfB}, {2, Content}}},
				{At: 6, Op: If, Places: []Place{{0, Self}}, Next: []int{1, 0}},
			},
			{{At: 8, Op: End, Places: []Place{{0, Self}}}},
		},
	}
	if e != api.OK || at != 0 || !reflect.DeepEqual(p, want) {
		t.Errorf("Read = %+v, %d, %d, want %+v", p, e, at, want)
	}
}

func TestReadRawMakesAProgram(t *testing.T) {
	p, e, at := ReadRaw("let n int\nlet o opt\nblock\nflag 49 1\nfree o.s\nflag 0 0\ntest 7 1 0\nblock\nend n")
	want := &Program{
		Locals: []Local{{"n", Int}, {"o", Opt}},
		Blocks: []Block{
			{
				{At: 3, Op: Flag, Flag: 49, Number: 1},
				{At: 4, Op: Free, Places: []Place{{1, Content}}},
				{At: 5, Op: Flag},
				{At: 6, Op: Test, Flag: 7, Next: []int{1, 0}},
			},
			{{At: 8, Op: End, Places: []Place{{0, Self}}}},
		},
	}
	if e != api.OK || at != 0 || !reflect.DeepEqual(p, want) {
		t.Errorf("ReadRaw = %+v, %d, %d, want %+v", p, e, at, want)
	}
}

// TestDialects: a program and a raw one differ in four lines.
func TestDialects(t *testing.T) {
	own, raw := dialect{}, dialect{raw: true}
	for op := Let; op <= End; op++ {
		inOwn, inRaw := op != Free && op != Flag && op != Test, op != Drop
		if own.has(op) != inOwn || raw.has(op) != inRaw {
			t.Errorf("%q is in a program: %t, in a raw one: %t", shapes[op].word, own.has(op), raw.has(op))
		}
	}
}

// TestOrderOfBlocks: a dialect has no more blocks than it says. A raw program has too many lines ahead of that.
func TestOrderOfBlocks(t *testing.T) {
	o := order{dialect: dialect{raw: true, blocks: api.MaxRawBlocks}}
	o.admits(Let)
	for i := range api.MaxRawBlocks {
		if !o.admits(Begin) || !o.admits(Test) {
			t.Fatalf("block %d is not admitted", i)
		}
	}
	if o.admits(Begin) {
		t.Errorf("there are more than %d blocks", api.MaxRawBlocks)
	}
}

func TestReadGivesNothingWithAnError(t *testing.T) {
	for _, c := range []struct {
		text string
		e    api.Errno
		at   int
	}{
		{strings.Repeat("\n", api.MaxLines), api.ErrLong, 0},
		{"let n int", api.ErrForm, 1},
		{"let n int\nblock\nend m", api.ErrName, 2},
		{"let n box\nblock\nend n", api.ErrType, 2},
	} {
		if p, e, at := Read(c.text); p != nil || e != c.e || at != c.at {
			t.Errorf("Read(%.20q) = %v, %d, %d, want nil, %d, %d", c.text, p, e, at, c.e, c.at)
		}
	}
}

// TestShapes: each op has a row, and a word of its own, no line has more words than are looked for, and places stand first: fits leans on that.
func TestShapes(t *testing.T) {
	if len(shapes) != int(End)+1 {
		t.Errorf("there are %d rows", len(shapes))
	}
	for op, shape := range shapes {
		if found, ok := opOf(shape.word); !ok || found != Op(op) {
			t.Errorf("opOf(%q) = %d, %t, want %d", shape.word, found, ok, op)
		}
		if 1+len(shape.wants) > mostWords {
			t.Errorf("%q has more than %d words", shape.word, mostWords)
		}
		if rest := strings.TrimLeft(shape.wants, "dtiopm"); strings.ContainsAny(rest, "dtiopm") {
			t.Errorf("%q has a place behind a number: %q", shape.word, shape.wants)
		}
	}
}

func TestNumbers(t *testing.T) {
	for word, want := range map[string]int64{"0": 0, "7": 7, "-7": -7, "1000000000": api.MaxNumber, "-1000000000": -api.MaxNumber} {
		if n, ok := numberOf(word); !ok || n != want {
			t.Errorf("numberOf(%q) = %d, %t, want %d", word, n, ok, want)
		}
	}
	for _, word := range []string{"", "-", "-0", "--1", "-+1", "+1", "01", "1000000001", "9999999999999999999999"} {
		if n, ok := numberOf(word); ok {
			t.Errorf("numberOf(%q) = %d, want none", word, n)
		}
	}
	for word, want := range map[string]int{"0": 0, "9": 9, "49": 49, "50": -1, "-0": -1, "-1": -1, "07": -1, "": -1, "4294967296": -1} {
		if n, ok := flagOf(word); ok != (want >= 0) || ok && n != want {
			t.Errorf("flagOf(%q) = %d, %t, want %d", word, n, ok, want)
		}
	}
	if n, ok := blockOf("-1"); ok {
		t.Errorf("blockOf(-1) = %d, want none", n)
	}
}

func TestKindsAndHalves(t *testing.T) {
	p := &Program{Locals: []Local{{"n", Int}, {"p", Box}, {"x", Pair}, {"o", Opt}}}
	for local, parts := range [][]Part{{Self}, {Self}, {Self, HalfA, HalfB}, {Self, Content}} {
		for _, part := range []Part{Self, HalfA, HalfB, Content} {
			kind, ok := p.Kind(Place{local, part})
			has := slices.Contains(parts, part)
			if ok != has || ok && part != Self && kind != Box || part == Self && kind != p.Locals[local].Type {
				t.Errorf("Kind of part %d of local %d = %d, %t", part, local, kind, ok)
			}
		}
	}
	if got := p.Halves(Place{2, Self}); !reflect.DeepEqual(got, []Place{{2, HalfA}, {2, HalfB}}) {
		t.Errorf("Halves of a pair = %v", got)
	}
	for _, place := range []Place{{1, Self}, {2, HalfB}, {3, Self}, {3, Content}} {
		if got := p.Halves(place); !reflect.DeepEqual(got, []Place{place}) {
			t.Errorf("Halves of %v = %v", place, got)
		}
	}
}

func TestBoxes(t *testing.T) {
	p := &Program{Locals: []Local{{"n", Int}, {"p", Box}, {"x", Pair}, {"o", Opt}}}
	for _, c := range []struct {
		thing Place
		want  []Place
	}{
		{Place{0, Self}, nil},
		{Place{1, Self}, []Place{{1, Self}}},
		{Place{2, Self}, []Place{{2, HalfA}, {2, HalfB}}},
		{Place{2, HalfB}, []Place{{2, HalfB}}},
		{Place{3, Self}, []Place{{3, Content}}},
		{Place{3, Content}, []Place{{3, Content}}},
	} {
		if got := p.Boxes(c.thing); !slices.Equal(got, c.want) {
			t.Errorf("Boxes of %v = %v, want %v", c.thing, got, c.want)
		}
	}
}

// TestText: a text that is read is written again as it was, with lines of all kinds.
func TestText(t *testing.T) {
	both := "let n int\nlet abcd box\nlet x pair\nlet o opt\nblock\nset n 0\nset n -1000000000\nadd n n n\nsub n n n\nmul n n n\ndiv n n n\nin n\nout n\nnew abcd n\nload n x.a\nstore x.b n\nmove o.s abcd\nmove x x\nmove o o\nnone o\nsome o x.a\n"
	ends := "goto 1\nblock\nif n 0 2\nblock\nmatch o 2 0\nblock\nend n"
	own := both + "drop x.b\ndrop x\ndrop o.s\ndrop o\n" + ends
	if p, e, at := Read(own); e != api.OK || p.Text() != own {
		t.Errorf("Read = %d, %d, then Text = %q, want %q", e, at, p.Text(), own)
	}
	raw := both + "free x.a\nfree o.s\nflag 0 1\nflag 49 0\n" + ends + "\nblock\ntest 49 3 1"
	if p, e, at := ReadRaw(raw); e != api.OK || p.Text() != raw {
		t.Errorf("ReadRaw = %d, %d, then Text = %q, want %q", e, at, p.Text(), raw)
	}
}

// TestSlot: all places have slots of their own, but for an opt and its content.
func TestSlot(t *testing.T) {
	seen := map[int]Place{}
	for local := range api.MaxLocals {
		for _, part := range []Part{HalfA, HalfB} {
			place := Place{local, part}
			slot := place.Slot()
			if other, twice := seen[slot]; twice || slot < 0 || slot >= Slots {
				t.Errorf("the slot of %v is %d, as that of %v", place, slot, other)
			}
			seen[slot] = place
		}
		if (Place{local, Self}).Slot() != (Place{local, Content}).Slot() {
			t.Errorf("opt %d and its content have slots of their own", local)
		}
	}
}
