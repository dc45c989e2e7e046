package stow_test

import (
	"strings"
	"testing"

	"stow/api"
	"stow/stow"
)

// text makes a program of lines that are given with a comma and a blank between each two.
func text(lines string) string { return strings.ReplaceAll(lines, ", ", "\n") }

// wants fails, if Check answers otherwise.
func wants(t *testing.T, promise, lines string, e api.Errno, at int) {
	t.Helper()
	if gotE, gotAt := stow.Check(text(lines)); gotE != e || gotAt != at {
		t.Errorf("%s: Check(%.200q) = %d, %d, want %d, %d", promise, lines, gotE, gotAt, e, at)
	}
}

// wantsBoth fails, if Check or Look answers otherwise: what a program and a raw program have in common.
func wantsBoth(t *testing.T, lines string, e api.Errno, at int) {
	t.Helper()
	wants(t, "P3", lines, e, at)
	wantsRaw(t, "P6", lines, e, at)
}

// head has locals of all types (lines 0 to 7) and gives n and o; the next line is 11.
const head = "let n int, let m int, let p box, let q box, let x pair, let y pair, let o opt, let l opt, block, in n, none o, "

const next = 11

// TestP3Examples: examples 1 to 4 of the document.
func TestP3Examples(t *testing.T) {
	wants(t, "P3", "let n int, let p box, block, set n 5, new p n, load n p, end n", api.OK, 0)
	wants(t, "P3", "let n int, let p box, block, set n 5, new p n, new p n, load n p, end n", api.OK, 0)
	wants(t, "P3", "let n int, let p box, block, set n 5, new p n, drop p, load n p, end n", api.ErrUse, 6)
	join := "let n int, let p box, let q box, block, in n, new p n, if n 1 2, block, move q p, goto 2, block, "
	wants(t, "P3", join+"end n", api.OK, 0)
	wants(t, "P3", join+"load n p, end n", api.ErrUse, 11)
	match := "let n int, let p box, let x opt, block, set n 1, new p n, some x p, match x 1 2, block, "
	wants(t, "P3", match+"end n, block, load n x.s, move p x.s, end n", api.OK, 0)
	wants(t, "P3", match+"load n x.s, end n, block, load n x.s, move p x.s, end n", api.ErrUse, 9)
}

func TestP3Long(t *testing.T) {
	lines := func(n int) string { return "let n int, block" + strings.Repeat(", in n", n-3) + ", end n" }
	wants(t, "P3", lines(api.MaxLines-1), api.OK, 0)
	wants(t, "P3", lines(api.MaxLines), api.OK, 0)
	wants(t, "P3", lines(api.MaxLines+1), api.ErrLong, 0)
	wants(t, "P3", lines(api.MaxLines)+", ", api.ErrLong, 0) // an empty line is one too
	wants(t, "P3", strings.Repeat(", ", api.MaxLines-1), api.ErrForm, 0)
	wants(t, "P3", strings.Repeat(", ", api.MaxLines), api.ErrLong, 0)
}

func TestP3P6WhereLinesStand(t *testing.T) {
	for _, c := range []struct {
		lines string
		at    int
	}{
		{"", 0},
		{"block", 0},
		{"set n 1", 0},
		{"end n", 0},
		{"let n int", 1},
		{"let n int, let m int", 2},
		{"let n int, in n", 1},
		{"let n int, end n", 1},
		{"let n int, block", 2},
		{"let n int, block, in n", 3},
		{"let n int, block, block, end n", 2},
		{"let n int, block, in n, block, end n", 3},
		{"let n int, block, let m int, end n", 2},
		{"let n int, block, in n, end n, let m int", 4},
		{"let n int, block, in n, end n, in n", 4},
		{"let n int, block, in n, end n, goto 0", 4},
		{"let n int, block, in n, end n, block", 5},
		{"let n int, block, in n, end n, block, in n", 6},
		{"let n int, block, in n, end n, ", 4},
		{", let n int, block, in n, end n", 0},
	} {
		wantsBoth(t, c.lines, api.ErrForm, c.at)
	}
}

func TestP3P6HowMany(t *testing.T) {
	names := []string{"a", "b", "c", "d", "e", "f", "g", "h", "i", "j", "k", "l", "m"}
	locals := func(n int) string { return "let " + strings.Join(names[:n], " int, let ") + " int, " }
	wantsBoth(t, locals(1)+"block, in a, end a", api.OK, 0)
	wantsBoth(t, locals(api.MaxLocals)+"block, in l, end l", api.OK, 0)
	wantsBoth(t, locals(api.MaxLocals+1)+"block, in l, end l", api.ErrForm, api.MaxLocals)
	blocks := func(n int) string { return "let n int" + strings.Repeat(", block, goto 0", n) }
	wantsBoth(t, blocks(api.MaxBlocks), api.OK, 0)
	wants(t, "P3", blocks(api.MaxBlocks+1), api.ErrForm, 1+2*api.MaxBlocks)
	wantsBoth(t, blocks(api.MaxBlocks-1)+", block, goto 19", api.OK, 0)
	wantsBoth(t, blocks(api.MaxBlocks-1)+", block, goto 20", api.ErrName, 2*api.MaxBlocks)
}

func TestP3P6FormOfLets(t *testing.T) {
	for _, l := range []string{
		"let", "let n", "let n int int", "let n Int", "let n num", "let n ", "let  int", "let int", "let n  int", " let n int", "let n int ", "let\tn int", "let n int\r", "Let n int",
		"let N int", "let é int", "let n1 int", "let n_ int", "let n.a int", "let abcde int", "let \x00 int", "let \xff int", "let ` int", "let { int",
	} {
		wantsBoth(t, l+", block, end n", api.ErrForm, 0)
		wantsBoth(t, "let z opt, "+l+", block, end n", api.ErrForm, 1)
	}
	for _, name := range []string{"a", "z", "az", "abc", "zzzz", "let", "int", "box", "end"} {
		wantsBoth(t, "let "+name+" int, block, in "+name+", end "+name, api.OK, 0)
	}
}

func TestP3P6FormOfStatements(t *testing.T) {
	for _, l := range []string{
		"", " ", "hello", "Set n 1", "set", "set n", "set n 1 1", "set n m", "set 1 1", "set n.a 1", "set x.a 1", " set n 1", "set n 1 ", "set  n 1", "set n\t1", "set n 1\r", "set abcde 1",
		"add n n", "add n n n n", "add n n 1", "add n n x.a", "sub n n", "mul n n", "div n n", "mod n n n",
		"in", "in 1", "in n n", "in x.a", "out", "out 1", "out n n", "out x.a",
		"new p", "new n", "new p 1", "new p x.a", "new 1 n", "new p n n", "new x.c n", "new x. n", "new .a n", "new . n", "new x.a.b n", "new x.aa n", "new x.A n", "new x,a n", "new abcde n", "new abcde.a n", "new X.a n",
		"load n", "load p", "load x.a p", "load 1 p", "load n 1", "load n p p", "store p", "store p 1", "store p x.a", "store p n n",
		"move p", "move", "move p q x", "move p 1", "move 1 p", "move p x.c", "move x.c p",
		"none", "none o.s", "none 0", "none o o", "some o", "some o.s p", "some o 1", "some o p p", "some o p.x",
		"drop", "drop 1", "drop p q", "drop x.c",
		"block 0", "Block", "block ", "goto", "goto n", "goto -1", "goto -0", "goto 00", "goto 01", "goto +0", "goto 0 0", "goto 1000000001", "goto 99999999999999999999",
		"if n", "if n 0", "if 0 0 0", "if n 0 0 0", "if x.a 0 0", "if n 0 -1", "if n -1 0", "if n 0 n",
		"match o", "match o 0", "match o 0 0 0", "match o.s 0 0", "match 0 0 0", "match o 0 x", "match o 00 0",
		"end", "end 0", "end n n", "end x.a", "end ", "end  n",
	} {
		wantsBoth(t, head+l+", end n", api.ErrForm, next)
		wantsBoth(t, head+"in n, "+l, api.ErrForm, next+1)
	}
	for _, l := range []string{"free p", "free x.a", "free o.s", "flag 0 1", "test 0 0 0"} {
		wants(t, "P3", head+l+", end n", api.ErrForm, next)
	}
}

func TestP3P6FormOfNumbers(t *testing.T) {
	for _, n := range []string{"0", "1", "9", "10", "-1", "-10", "999999999", "1000000000", "-1000000000"} {
		wantsBoth(t, head+"set n "+n+", end n", api.OK, 0)
	}
	for _, n := range []string{"-0", "00", "01", "-01", "+1", "+0", "--1", "-", "1-", "1_0", "0x1", "1e3", "1.0", "٣", "1000000001", "-1000000001", "10000000000", "9223372036854775807", "9223372036854775808", "-9223372036854775808", "18446744073709551617", strings.Repeat("1", 1000000)} {
		wantsBoth(t, head+"set n "+n+", end n", api.ErrForm, next)
	}
}

func TestP3P6Names(t *testing.T) {
	for _, c := range []struct {
		lines string
		at    int
	}{
		{"let n int, let n int, block, in n, end n", 1},
		{"let n int, let n box, block, in n, end n", 1},
		{"let n int, let p box, let p pair, let n int, block, in n, end n", 2},
		{"let n int, block, in n, goto 1", 3},
		{"let n int, block, in n, if n 0 1", 3},
		{"let n int, block, in n, if n 1 0", 3},
		{"let n int, let o opt, block, none o, match o 0 1", 4},
		{"let n int, let o opt, block, none o, match o 1 0", 4},
		{"let n int, block, goto 1000000000", 2},
		{"let n int, block, goto 1, block, goto 2, block, goto 3", 6},
		{"let n int, block, end nn", 2},
		{"let nn int, block, end n", 2},
	} {
		wantsBoth(t, c.lines, api.ErrName, c.at)
	}
	for _, l := range []string{"set z 1", "add z n n", "sub n z n", "mul n n z", "div z z z", "in z", "out z", "new z n", "new z.a n", "new z.s n", "new p z", "load z p", "load n z", "load n z.b", "store z n", "store p z", "move z p", "move p z", "move z.s p", "none z", "some z p", "some o z"} {
		wantsBoth(t, head+l+", end n", api.ErrName, next)
	}
	wants(t, "P3", head+"drop z, end n", api.ErrName, next)
	wants(t, "P3", head+"drop z.a, end n", api.ErrName, next)
	for _, l := range []string{"if z 0 0", "match z 0 0", "end z"} {
		wantsBoth(t, head+l, api.ErrName, next)
	}
	wantsBoth(t, head+"end n, block, end z", api.ErrName, next+2) // that it cannot be come to is nothing to names
}

func TestP3P6Types(t *testing.T) {
	for _, l := range []string{
		"set p 1", "set x 1", "set o 1", "add p n n", "add n x n", "sub n n o", "mul n p n", "div n n q", "in p", "out x",
		"new n n", "new x n", "new o n", "new n.a n", "new n.s n", "new p.a n", "new p.s n", "new x.s n", "new o.a n", "new o.b n", "new p p", "new p o", "new x.a x",
		"load p p", "load x p", "load n n", "load n x", "load n o", "load n x.s", "load n p.b", "store n n", "store x n", "store o n", "store o.a n", "store p p",
		"move n m", "move n n", "move n p", "move p n", "move p x", "move x p", "move p o", "move o p", "move x o", "move o x", "move x.a x", "move x x.a", "move o o.s", "move o.s o", "move x.s p", "move p x.s", "move p o.b", "move p.a q", "move n.a p",
		"none n", "none p", "none x", "some n p", "some p q", "some x p", "some o n", "some o x", "some o l", "some o x.s",
	} {
		wantsBoth(t, head+l+", end n", api.ErrType, next)
		wantsBoth(t, head+"end n, block, "+l+", end n", api.ErrType, next+2)
	}
	for _, l := range []string{"drop n", "drop n.a", "drop p.a", "drop p.s", "drop x.s", "drop o.a", "drop o.b"} {
		wants(t, "P3", head+l+", end n", api.ErrType, next)
	}
	for _, l := range []string{"if p 0 0", "if x 0 0", "if o 0 0", "match n 0 0", "match p 0 0", "match x 0 0", "end p", "end x", "end o"} {
		wantsBoth(t, head+l, api.ErrType, next)
	}
}

// TestP1FirstNamed: where several errors apply, the one named first is the answer, wherever the others stand.
func TestP1FirstNamed(t *testing.T) {
	const use, kind, name, form = "out m, ", "drop n, ", "out z, ", "oops, "
	long := strings.Repeat("in n, ", api.MaxLines)
	wants(t, "P1", head+use+kind+name+form+long+"end n", api.ErrLong, 0)
	wants(t, "P1", head+use+kind+name+form+"end n", api.ErrForm, next+3)
	wants(t, "P1", head+use+kind+name+"end n", api.ErrName, next+2)
	wants(t, "P1", head+use+kind+"end n", api.ErrType, next+1)
	wants(t, "P1", head+use+"end n", api.ErrUse, next)
	wants(t, "P1", strings.TrimSuffix(head+use+kind+name, ", "), api.ErrForm, next+3) // it ends ahead of its time
	wants(t, "P1", "let n int, let n int, block, drop n, end n, let", api.ErrForm, 5)
	wants(t, "P1", "let n int, let p box, block, drop n, goto 1, block, goto 2", api.ErrName, 6)
}
