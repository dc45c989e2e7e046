package elaborate

import (
	"strings"
	"testing"

	"stow/api"
	"stow/prog"
)

// rawOf gives the text of the raw program, with a comma and a blank between each two lines, as lines are given.
func rawOf(t *testing.T, lines string) string {
	t.Helper()
	p, e, at := prog.Read(strings.ReplaceAll(lines, ", ", "\n"))
	if e != api.OK {
		t.Fatalf("Read(%q) = %d, %d", lines, e, at)
	}
	return strings.ReplaceAll(Raw(p).Text(), "\n", ", ")
}

// want fails, if of the lines behind lets other ones are made.
func want(t *testing.T, lets, lines, raw string) {
	t.Helper()
	if got := rawOf(t, lets+lines); got != lets+raw {
		t.Errorf("of %q is made\n%q, want\n%q", lets+lines, got, lets+raw)
	}
}

const lets = "let n int, let p box, let x pair, let o opt, let l opt, "

// TestSure: where it is known what is there, it is freed without a flag.
func TestSure(t *testing.T) {
	want(t, "let n int, let p box, ", "block, set n 5, new p n, load n p, end n", "block, set n 5, new p n, load n p, free p, end n") // example 6
	want(t, lets, "block, in n, end n", "block, in n, end n")
	want(t, lets, "block, in n, new p n, new p n, drop p, drop p, end n", "block, in n, new p n, free p, new p n, free p, end n")
	want(t, lets, "block, in n, new x.a n, new x.b n, move x x, move x.a x.b, end n", "block, in n, new x.a n, new x.b n, move x x, free x.a, move x.a x.b, free x.a, end n")
	want(t, lets, "block, in n, new x.b n, new p n, some l p, new x.a n, new p n, end n", "block, in n, new x.b n, new p n, some l p, new x.a n, new p n, free l.s, free x.a, free x.b, free p, end n")
	want(t, lets, "block, in n, new p n, some o p, move o o, some o o.s, new o.s n, move l o, none l, end n", "block, in n, new p n, some o p, move o o, some o o.s, free o.s, new o.s n, move l o, free l.s, none l, end n")
	want(t, lets, "block, in n, new p n, some o p, drop o.s, drop o.s, drop o, end n", "block, in n, new p n, some o p, free o.s, end n")
	// on several ways too, if they come to the same
	want(t, lets, "block, in n, new p n, if n 1 2, block, drop p, new p n, goto 2, block, end n", "block, in n, new p n, if n 1 2, block, free p, new p n, goto 2, block, free p, end n")
	want(t, lets, "block, in n, new p n, some o p, match o 1 2, block, end n, block, goto 2", "block, in n, new p n, some o p, match o 1 2, block, end n, block, goto 2")
}

// TestUnsure: where it is not, there is a flag, which is set where that changes.
func TestUnsure(t *testing.T) {
	want(t, lets, "block, in n, if n 1 2, block, new p n, new p n, goto 2, block, end n",
		"block, in n, if n 1 2, block, new p n, flag 2 1, free p, new p n, goto 2, block, test 2 3 4, block, free p, goto 4, block, end n")
	want(t, lets, "block, in n, new x.b n, if n 1 2, block, drop x, goto 2, block, drop x, drop x, end n",
		"block, in n, new x.b n, flag 5 1, if n 1 2, block, free x.b, flag 5 0, goto 2, block, test 5 3 4, block, free x.b, goto 4, block, flag 5 0, end n")
	want(t, lets, "block, in n, new p n, some o p, if n 1 2, block, move p o.s, goto 2, block, new o.s n, drop p, end n",
		"block, in n, new p n, flag 2 1, some o p, flag 2 0, flag 6 1, if n 1 2, block, move p o.s, flag 2 1, flag 6 0, goto 2, block, test 6 3 4, block, free o.s, goto 4, block, new o.s n, flag 6 1, test 2 5 6, block, free p, goto 6, block, flag 2 0, free o.s, end n")
}

// TestMoved: by a tag is told whether an opt that is moved is nothing or whole.
func TestMoved(t *testing.T) {
	want(t, lets, "block, in n, none o, new p n, if n 1 2, block, some o p, goto 2, block, move l o, drop p, end n",
		"block, in n, none o, new p n, flag 2 1, if n 1 2, block, some o p, flag 2 0, goto 2, block, move l o, flag 8 1, match l 3 4, block, flag 8 0, goto 4, block, test 2 5 6, block, free p, goto 6, block, flag 2 0, test 8 7 8, block, free l.s, goto 8, block, end n")
	// what is moved to itself is not freed
	want(t, lets, "block, in n, none o, new p n, if n 1 2, block, some o p, goto 2, block, move o o, goto 3, block, goto 3",
		"block, in n, none o, new p n, if n 1 2, block, some o p, goto 2, block, move o o, goto 3, block, goto 3")
	// where nothing is freed that may be there or not, nothing is asked
	want(t, lets, "block, in n, none o, new p n, if n 1 2, block, some o p, goto 2, block, move l o, goto 3, block, goto 3",
		"block, in n, none o, new p n, if n 1 2, block, some o p, goto 2, block, move l o, goto 3, block, goto 3")
}

// TestNeverComeTo: such a block keeps its number alone.
func TestNeverComeTo(t *testing.T) {
	want(t, lets, "block, in n, goto 2, block, drop p, load n p, end n, block, end n", "block, in n, goto 2, block, goto 1, block, end n")
}

// TestFork: the lines aside are come to by the first way on alone, and those behind by both.
func TestFork(t *testing.T) {
	m := maker{blocks: make([]prog.Block, 1)}
	m.fork(prog.Line{Op: prog.Test, Flag: 7}, flag(7, 0), flag(8, 1))
	m.put(flag(9, 1), toBlock(0))
	p := &prog.Program{Locals: []prog.Local{{Name: "n", Type: prog.Int}}, Blocks: m.blocks}
	if got, want := p.Text(), "let n int\nblock\ntest 7 1 2\nblock\nflag 7 0\nflag 8 1\ngoto 2\nblock\nflag 9 1\ngoto 0"; got != want {
		t.Errorf("made is %q, want %q", got, want)
	}
}

// TestHowMuch: the numbers that Raw leans on. The last block is come to with each half there or not.
func TestHowMuch(t *testing.T) {
	if prog.Slots > api.MaxFlags {
		t.Errorf("there are %d slots, and %d flags", prog.Slots, api.MaxFlags)
	}
	pairs, makes := "let n int, ", ""
	for i := range api.MaxLocals - 1 {
		name := string(rune('a' + i))
		pairs += "let " + name + " pair, "
		makes += "new " + name + ".a n, new " + name + ".b n, "
	}
	for _, c := range []struct {
		ahead, line   string
		lines, blocks int
	}{
		{"", "end n", 111, 44},
		{"new a.a n, new a.b n, ", "move b a, out n, end n", 15, 4},
		{"", "drop a, out n, end n", 12, 4},
		{"", "new a.a n, out n, end n", 7, 2},
	} {
		raw := rawOf(t, pairs+"block, in n, if n 1 2, block, "+makes+"goto 2, block, "+c.ahead+"out n, "+c.line)
		_, made, _ := strings.Cut(raw, "out n, ")
		made, _, _ = strings.Cut(made, ", out n")
		if lines, blocks := 1+strings.Count(made, ", "), strings.Count(made, "block"); lines != c.lines || blocks != c.blocks {
			t.Errorf("of %q are made %d lines and %d blocks, want %d and %d: %q", c.line, lines, blocks, c.lines, c.blocks, made)
		}
	}
}
