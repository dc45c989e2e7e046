package stow_test

import (
	"slices"
	"strconv"
	"strings"
	"testing"

	"stow/api"
	"stow/stow"
)

// hasLine tells whether a text has a line with that first word. (A local may have the same name.)
func hasLine(text, word string) bool {
	return slices.ContainsFunc(strings.Split(text, "\n"), func(line string) bool { return strings.HasPrefix(line, word+" ") })
}

// locals gives the lines of a text ahead of its first block.
func locals(text string) string {
	lines, _, _ := strings.Cut(text, "\nblock\n")
	return lines
}

// elaborated gives the raw program of a program, and fails if it is none such as there must be, whatever it does.
func elaborated(t *testing.T, program string) string {
	t.Helper()
	raw, e, at := stow.Elaborate(program)
	if e != api.OK || at != 0 {
		t.Fatalf("P8: Elaborate(%q) = %q, %d, %d", program, raw, e, at)
	}
	if e, at := stow.Look(raw); e != api.OK || at != 0 {
		t.Fatalf("P8: Look of Elaborate(%q) = %d, %d: %q", program, e, at, raw)
	}
	if locals(raw) != locals(program) {
		t.Fatalf("P8: Elaborate(%q) = %q has other locals", program, raw)
	}
	one := strings.Count(program, "\nblock\n") == 1 && strings.HasPrefix(program[strings.LastIndex(program, "\n")+1:], "end ")
	if one && (hasLine(raw, "flag") || hasLine(raw, "test")) {
		t.Fatalf("P8: Elaborate(%q) = %q has a flag", program, raw)
	}
	return raw
}

// wantSame holds a run of a program against that of its raw program, and gives what the first one came to.
func wantSame(t *testing.T, program, raw string, inputs []int64, room int) api.Result {
	t.Helper()
	a, e, _ := stow.Run(program, inputs, api.MaxFuel, room)
	b, f, _ := stow.Exec(raw, inputs, api.MaxRawFuel, room)
	same := a == b
	if a.Outcome == api.Tired {
		same = b.Outcome != api.Broken && (a.Trace == "" || strings.HasPrefix(b.Trace+" ", a.Trace+" "))
	}
	if e != api.OK || f != api.OK || !same {
		t.Fatalf("P8: with %v, %d: Run(%q) = %.300v, %d, Exec(%q) = %.300v, %d", inputs, room, program, a, e, raw, b, f)
	}
	return a
}

// wantAllSame does so with all inputs of 0 and 1 to that number, and with many rooms.
func wantAllSame(t *testing.T, lines string, inputs int) {
	t.Helper()
	program := text(lines)
	raw := elaborated(t, program)
	for k := range 1 << inputs {
		var list []int64
		for i := range inputs {
			list = append(list, int64(k>>i&1))
		}
		for _, room := range []int{0, 1, 2, 3, 4, api.MaxRoom} {
			wantSame(t, program, raw, list, room)
		}
	}
}

// TestP8Examples: examples 1 to 4, and 6.
func TestP8Examples(t *testing.T) {
	wantAllSame(t, "let n int, let p box, block, set n 5, new p n, load n p, end n", 0)
	wantAllSame(t, "let n int, let p box, block, set n 5, new p n, new p n, load n p, end n", 0)
	wantAllSame(t, "let n int, let p box, let q box, block, in n, new p n, if n 1 2, block, move q p, goto 2, block, end n", 1)
	wantAllSame(t, "let n int, let p box, let x opt, block, set n 1, new p n, some x p, match x 1 2, block, end n, block, load n x.s, move p x.s, end n", 0)
}

// TestP8Errors: the error of Check, with its place, and no text.
func TestP8Errors(t *testing.T) {
	for _, c := range []struct {
		lines string
		e     api.Errno
		at    int
	}{
		{strings.Repeat(", ", api.MaxLines), api.ErrLong, 0},
		{"let n int, block" + strings.Repeat(", in n", api.MaxLines-2) + ", end n", api.ErrLong, 0},
		{"", api.ErrForm, 0},
		{"let n int", api.ErrForm, 1},
		{"let n int, block, in n", api.ErrForm, 3},
		{"let n int, let p box, block, in n, new p n, free p, end n", api.ErrForm, 5},
		{"let n int, block, in n, flag 0 1, end n", api.ErrForm, 3},
		{"let n int, block, in n, test 0 0 0", api.ErrForm, 3},
		{"let n int, let n box, block, in n, end n", api.ErrName, 1},
		{"let n int, block, in n, goto 1", api.ErrName, 3},
		{"let n int, block, in n, end n, block, drop n, end n", api.ErrType, 5},
		{"let n int, block, end n", api.ErrUse, 2},
		{"let n int, let p box, block, in n, new p n, drop p, load n p, end n", api.ErrUse, 6},
		{"let n int, let p box, let q box, block, in n, new p n, if n 1 2, block, move q p, goto 2, block, load n p, end n", api.ErrUse, 11},
		{"let n int, let p box, block, load n p, drop n, end z", api.ErrName, 5},
	} {
		if raw, e, at := stow.Elaborate(text(c.lines)); raw != "" || e != c.e || at != c.at {
			t.Errorf("P8: Elaborate(%.60q) = %q, %d, %d, want %d, %d", c.lines, raw, e, at, c.e, c.at)
		}
	}
}

// TestP8OneBlock: what is there is known all along, so that there is neither flag nor test, whatever is moved and written over.
func TestP8OneBlock(t *testing.T) {
	for _, lines := range []string{
		"new p n, new p n, new q n, move p q, drop q, end n",
		"new p n, move p p, move p p, new p n, end n",
		"new x.a n, new x.b n, new y.b n, move y x, move y y, move y.a y.b, drop x, new x.b n, end n",
		"new x.b n, move x.a x.b, new x.a n, drop x.b, drop x, drop x.a, end n",
		"new p n, some o p, some o o.s, move o o, move o.s o.s, new o.s n, move l o, move o l, end n",
		"new p n, some o p, none o, new p n, some o p, drop o.s, new o.s n, drop o.s, drop o.s, drop o, drop o, end n",
		"new p n, some o p, move q o.s, some l q, move p l.s, some o p, new p n, some o p, move o.s o.s, end n",
		"move l o, move l l, new p n, some l p, move o l, none l, drop l, end n",
		"new p n, some l p, move l o, end n",
		"sub m n n, new p n, div m n m, end m",
		"end n",
	} {
		wantAllSame(t, head+lines, 1)
	}
	wantAllSame(t, "let flag int, let test box, let free opt, let drop pair, block, in flag, new test flag, some free test, new drop.b flag, new test flag, move drop.b test, end flag", 1)
}

// TestP8OneBlockThatGoesOn: it may be come to in several ways, so that what is there is not known.
func TestP8OneBlockThatGoesOn(t *testing.T) {
	all := "let n int, let p box, let q box, let x pair, let o opt, block, in n, "
	wantAllSame(t, all+"goto 0", 1)
	wantAllSame(t, all+"new p n, goto 0", 1)
	wantAllSame(t, all+"new p n, if n 0 0", 3)
	wantAllSame(t, all+"new p n, some o p, match o 0 0", 1)
	wantAllSame(t, all+"new x.b n, move x.a x.b, new q n, move p q, goto 0", 1)
	wantAllSame(t, all+"drop p, drop x, drop o, new p n, new x.a n, some o p, goto 0", 1)
}

// TestP8NeverComeTo: what is never come to is nothing to the others.
func TestP8NeverComeTo(t *testing.T) {
	all := "let n int, let m int, let p box, let o opt, block, in n, new p n, "
	wantAllSame(t, all+"end n, block, load m p, drop p, out m, end m", 1)
	wantAllSame(t, all+"goto 2, block, drop o.s, match o 1 2, block, drop p, if n 3 4, block, new p n, goto 4, block, end n", 1)
}

// fork is a program that is come to behind two ways, each of which does some lines.
func fork(lets, one, two, behind string) string {
	return lets + "block, in n, in m, if n 1 2, block, " + one + "goto 3, block, " + two + "goto 3, block, " + behind + ", out m, end n"
}

// wantForks makes forks of all ways with all twos of lines behind them, and holds those against their raw programs that Check takes.
func wantForks(t *testing.T, lets string, ways, lines []string, least int) {
	t.Helper()
	count := 0
	for _, one := range ways {
		for _, two := range ways {
			for _, first := range lines {
				for _, second := range lines {
					program := fork(lets, one, two, first+", "+second)
					if e, _ := stow.Check(text(program)); e == api.OK {
						count++
						wantAllSame(t, program, 1)
					}
				}
			}
		}
	}
	if count < least {
		t.Errorf("only %d of the programs are right", count)
	}
}

// TestP8Boxes: boxes that are there or not, moved to themselves and written over.
func TestP8Boxes(t *testing.T) {
	ways := []string{"", "new p n, ", "new q n, ", "new q n, new p n, "}
	lines := []string{"new p m", "drop p", "move p p", "move q p", "move p q", "new q m, move p q, new q m", "drop q", "load m p, store q m"}
	wantForks(t, "let n int, let q box, let m int, let p box, ", ways, lines, 400)
}

// TestP8Pairs: pairs of which both halves, one or none is there.
func TestP8Pairs(t *testing.T) {
	ways := []string{"", "new x.a n, ", "new x.b n, ", "new x.b n, new x.a n, ", "new y.b n, new x.b n, new y.a n, "}
	lines := []string{"new x.a m", "new x.b m", "drop x", "drop x.b", "move x x", "move x y", "move x.a x.b", "move x.b y.a", "new y.a m, new y.b m, move x y"}
	wantForks(t, "let n int, let y pair, let m int, let x pair, ", ways, lines, 700)
}

// TestP8Opts: opts that are nothing, whole, hollow or away.
func TestP8Opts(t *testing.T) {
	ways := []string{"", "none o, ", "new p n, some o p, ", "new p n, some o p, drop o.s, ", "new p n, some o p, move p o.s, ", "none l, new p n, some o p, new p n, ", "new p n, some l p, none o, "}
	lines := []string{"drop o", "drop o.s", "none o", "new p m, some o p", "new o.s m", "new p m, move o.s p", "move o o", "some o o.s", "move o.s o.s", "move o l", "move l o", "move p o.s", "drop l", "new p m, some l p, move l o"}
	wantForks(t, "let n int, let p box, let l opt, let m int, let o opt, ", ways, lines, 2000)
}

// TestP8OptsThatAreMoved: an opt that may be nothing or whole is so still where it was moved to, whatever was there.
func TestP8OptsThatAreMoved(t *testing.T) {
	lets := "let n int, let m int, let p box, let o opt, let l opt, let k opt, "
	one, two := "new p n, some o p, ", "none o, "
	for _, lines := range []string{
		"move l o, drop l, end n",
		"move l o, move k l, move o k, end n",
		"move l o, in n, if n 4 5, block, new p n, some l p, goto 5, block, end n",
		"move l o, match l 4 5, block, new p n, some o p, move l o, goto 5, block, new p n, move l.s p, goto 6, block, drop l, end n",
		"none l, in m, if m 4 5, block, new p n, some l p, goto 5, block, move l o, in m, if m 6 7, block, move o l, goto 7, block, none l, none o, end n",
		"none l, in m, if m 4 5, block, new p n, some l p, goto 5, block, move k o, move o l, move l k, in m, if m 4 6, block, end n",
		"move o o, in m, if m 4 5, block, drop o, goto 5, block, drop o, end n",
		"goto 4, block, move l o, move o l, match o 5 6, block, new p n, some o p, in m, if m 4 7, block, drop o.s, none o, in m, if m 4 7, block, end n",
	} {
		wantAllSame(t, lets+"block, in n, in m, if n 1 2, block, "+one+"goto 3, block, "+two+"goto 3, block, "+lines, 5)
		wantAllSame(t, lets+"block, in n, in m, if n 1 2, block, "+two+"goto 3, block, "+one+"goto 3, block, "+lines, 5)
	}
}

// TestP8Ends: at an end all are freed that are there, in their order, and the value is looked at whatever is freed.
func TestP8Ends(t *testing.T) {
	lets := "let o opt, let x pair, let n int, let p box, let l opt, let q box, let y pair, "
	for _, makes := range []string{"new p n", "new q n", "new x.a n", "new x.b n", "new y.a n", "new y.b n", "new p n, some o p", "new p n, some l p", "new y.b n, new x.b n, new q n, new y.a n, new x.a n, some l q, new p n"} {
		wantAllSame(t, lets+"block, in n, if n 1 2, block, "+makes+", goto 2, block, in n, if n 3 4, block, end n, block, new q n, load n q, end n", 2)
	}
}

// TestP8Tired: a run that never ends goes on in the same way, and is never Broken.
func TestP8Tired(t *testing.T) {
	lets := "let n int, let m int, let p box, let q box, let x pair, let y pair, let o opt, let l opt, block, in n, none o, none l, "
	for _, lines := range []string{
		"goto 1, block, goto 1",
		"goto 1, block, out n, goto 1",
		"goto 1, block, new p n, goto 1",
		"goto 1, block, in m, if m 2 1, block, drop p, new q n, move p q, goto 1",
		"goto 1, block, new x.a n, in m, if m 2 3, block, new x.b n, move y x, goto 1, block, drop y.a, goto 1",
		"goto 1, block, in m, if m 2 3, block, new p n, some o p, goto 3, block, move l o, move o l, goto 1",
		"goto 1, block, in m, if m 2 3, block, new p n, some o p, goto 3, block, move l o, none o, goto 1",
		"new x.a n, new x.b n, goto 1, block, move y x, move x y, move y x, move x y, in m, if m 1 2, block, drop x.b, new y.b n, new x.b n, goto 1",
		"if n 1 2, block, new y.a n, new y.b n, goto 2, block, new x.a n, new x.b n, move y x, in m, if m 2 3, block, drop y, goto 2",
	} {
		program := text(lets + lines)
		raw := elaborated(t, program)
		for k := range 16 {
			inputs := []int64{int64(k & 1), int64(k >> 1 & 1), int64(k >> 2 & 1), int64(k >> 3 & 1)}
			if r := wantSame(t, program, raw, inputs, api.MaxRoom); r.Outcome != api.Tired {
				t.Errorf("Run(%q, %v) = %v, want Tired", program, inputs, r)
			}
		}
	}
}

// mostPairs has as many locals, blocks, lines, and places for boxes as may be, all of which may be there or not, with ends and loops.
func mostPairs() string {
	lines := []string{"let n int"}
	var halves []string
	for i := range api.MaxLocals - 1 {
		name := string(rune('a'+i)) + "x"
		lines = append(lines, "let "+name+" pair")
		halves = append(halves, name+".a", name+".b")
	}
	for b := range api.MaxBlocks {
		lines = append(lines, "block", "in n")
		switch b % 4 {
		case 0:
			for _, half := range halves[b : b+6] {
				lines = append(lines, "new "+half+" n")
			}
		case 1:
			lines = append(lines, "drop "+halves[b], "drop "+strings.TrimSuffix(halves[b+3], ".a"), "new "+halves[b]+" n")
		}
		if b < 3 {
			lines = append(lines, "out n")
		}
		lines = append(lines, mostOn(b))
	}
	return strings.Join(lines, "\n")
}

// mostOn is where block b of these goes on.
func mostOn(b int) string {
	if b%4 == 3 && b != 19 {
		return "end n"
	}
	return "if n " + strconv.Itoa((b+1)%api.MaxBlocks) + " " + strconv.Itoa((3*b+2)%api.MaxBlocks)
}

// mostOpts does the same with opts, which are matched and moved about.
func mostOpts() string {
	const opts = api.MaxLocals - 2
	opt := func(i int) string { return "o" + string(rune('a'+i%opts)) }
	lines := []string{"let n int", "let p box"}
	begin := []string{"block", "in n"}
	for i := range opts {
		lines = append(lines, "let "+opt(i)+" opt")
		begin = append(begin, "none "+opt(i))
	}
	lines = append(append(lines, begin...), "goto 1")
	for b := 1; b < api.MaxBlocks; b++ {
		next := strconv.Itoa(b%19+1) + " " + strconv.Itoa((b+6)%19+1)
		switch {
		case b == 9 || b == 19:
			lines = append(lines, "block", "in n", "out n", "none "+opt(b), "end n")
		case b%3 == 0:
			lines = append(lines, "block", "move "+opt(b)+" "+opt(b+1), "move "+opt(b+1)+" "+opt(b), "none "+opt(b), "match "+opt(b+1)+" "+next)
		default:
			lines = append(lines, "block", "in n", "new p n", "some "+opt(b)+" p", "if n "+next)
		}
	}
	return strings.Join(lines, "\n")
}

func TestP8Most(t *testing.T) {
	m := newMaker(7)
	for _, program := range []string{mostPairs(), mostOpts()} {
		lines := strings.Count(program, "\n") + 1
		if e, at := stow.Check(program); e != api.OK {
			t.Fatalf("Check(%q) = %d, %d", program, e, at)
		}
		if strings.Count(program, "\nblock") != api.MaxBlocks || strings.Count(program, "let ") != api.MaxLocals || lines != api.MaxLines {
			t.Errorf("there could be more in %q: it has %d lines", program, lines)
		}
		raw := elaborated(t, program)
		var count [api.Broken + 1]int
		for range 1000 {
			count[wantSame(t, program, raw, m.bits(), m.upTo(api.MaxRoom)).Outcome]++
		}
		for room := range api.MaxRoom + 1 {
			wantSame(t, program, raw, []int64{1, 0, 1, 1, 0, 0, 1}, room)
		}
		if count[api.Ended] < 100 || count[api.Full] < 100 {
			t.Errorf("%v runs with each outcome: they tell too little", count)
		}
	}
}

// TestP8MostLines: one block with as many lines as may be, each of which frees.
func TestP8MostLines(t *testing.T) {
	long := "let n int, let x pair, let y pair, block, in n, new x.a n, new x.b n, new y.a n, new y.b n" + strings.Repeat(", new x.a n", api.MaxLines-10) + ", end n"
	if lines := strings.Count(long, ", ") + 1; lines != api.MaxLines {
		t.Fatalf("there are %d lines", lines)
	}
	wantAllSame(t, long, 0)
	turns := "let n int, let x pair, let y pair, block, in n, new x.a n, new x.b n, if n 1 2, block, new y.a n, new y.b n, goto 2, block" + strings.Repeat(", move y x, new x.a n, new x.b n", 35) + ", if n 0 2"
	wantAllSame(t, turns, 3)
}
