package stow_test

import (
	"math"
	"strconv"
	"strings"
	"testing"

	"stow/api"
	"stow/stow"
)

// wantExec fails, if Exec answers otherwise.
func wantExec(t *testing.T, lines string, inputs []int64, fuel, room int, want api.Result) {
	t.Helper()
	if r, e, at := stow.Exec(text(lines), inputs, fuel, room); r != want || e != api.OK || at != 0 {
		t.Errorf("P7: Exec(%q, %v, %d, %d) = %+v, %d, %d, want %+v", lines, inputs, fuel, room, r, e, at, want)
	}
}

type execCase struct {
	lines   string // behind raw
	outcome api.Outcome
	value   int64
	trace   string
	live    int
}

// raw has locals of all types, and gives n alone.
const raw = "let n int, let m int, let p box, let q box, let x pair, let y pair, let o opt, let l opt, block, in n, "

// wantExecs: the input is 5.
func wantExecs(t *testing.T, cases []execCase) {
	t.Helper()
	for _, c := range cases {
		wantExec(t, raw+c.lines, []int64{5}, api.MaxRawFuel, api.MaxRoom, api.Result{Outcome: c.outcome, Value: c.value, Trace: c.trace, Live: c.live})
	}
}

// TestP7Example: example 5 of the document.
func TestP7Example(t *testing.T) {
	five := "let n int, let p box, block, set n 5, new p n, "
	wantExec(t, five+"free p, free p, end n", nil, 9, 1, api.Result{Outcome: api.Broken, Trace: "+1 -1"})
	wantExec(t, five+"free p, end n", nil, 9, 1, api.Result{Outcome: api.Ended, Value: 5, Trace: "+1 -1"})
	wantExec(t, five+"end n", nil, 9, 1, api.Result{Outcome: api.Ended, Value: 5, Trace: "+1", Live: 1})
}

// TestP7Errors: the error of Look comes first, with its place, then that of the numbers; with an error there is no result.
func TestP7Errors(t *testing.T) {
	small := "let n int, block, in n, end n"
	for _, c := range []struct {
		lines              string
		inputs, fuel, room int
		e                  api.Errno
		at                 int
	}{
		{strings.Repeat(", ", api.MaxRawLines), 0, 0, 0, api.ErrLong, 0},
		{strings.Repeat(", ", api.MaxRawLines), 101, -1, 51, api.ErrLong, 0},
		{small + ", oops", 0, 0, 0, api.ErrForm, 4},
		{"let n int, let p box, block, in n, drop p, end n", 0, 0, 0, api.ErrForm, 4},
		{"let n int, block, in n, flag 50 0, end n", 0, 0, 0, api.ErrForm, 3},
		{"let n int, block, in n, goto 1", 0, 0, 0, api.ErrName, 3},
		{"let n int, block, in n, goto 1", 101, -1, 51, api.ErrName, 3},
		{"let n int, block, in n, free n, end n", 0, 0, 0, api.ErrType, 3},
		{"let n int, block, in n, free n, end n", 101, -1, 51, api.ErrType, 3},
		{"", 101, -1, 51, api.ErrForm, 0},
		{small, api.MaxInputs + 1, 9, 9, api.ErrConf, 0},
		{small, 1 << 20, 9, 9, api.ErrConf, 0},
		{small, 0, -1, 9, api.ErrConf, 0},
		{small, 0, api.MaxRawFuel + 1, 9, api.ErrConf, 0},
		{small, 0, math.MinInt, 9, api.ErrConf, 0},
		{small, 0, math.MaxInt, 9, api.ErrConf, 0},
		{small, 0, 9, -1, api.ErrConf, 0},
		{small, 0, 9, api.MaxRoom + 1, api.ErrConf, 0},
		{small, 0, 9, math.MinInt, api.ErrConf, 0},
		{small, 0, 9, math.MaxInt, api.ErrConf, 0},
		{"let n int, block, end n", 0, -1, 9, api.ErrConf, 0}, // though it would break
	} {
		r, e, at := stow.Exec(text(c.lines), make([]int64, c.inputs), c.fuel, c.room)
		if r != (api.Result{}) || e != c.e || at != c.at {
			t.Errorf("P7: Exec(%.50q, %d inputs, %d, %d) = %+v, %d, %d, want %d, %d", c.lines, c.inputs, c.fuel, c.room, r, e, at, c.e, c.at)
		}
	}
	wantExec(t, small, make([]int64, api.MaxInputs), api.MaxRawFuel, api.MaxRoom, api.Result{Outcome: api.Ended})
	wantExec(t, small, nil, 0, 0, api.Result{Outcome: api.Tired})
}

func TestP7Numbers(t *testing.T) {
	for _, c := range []struct {
		op              string
		one, two, value int64
	}{
		{"add", 2, 3, 5}, {"add", math.MaxInt64, 1, math.MinInt64}, {"add", math.MinInt64, -1, math.MaxInt64},
		{"sub", 2, 3, -1}, {"sub", math.MinInt64, 1, math.MaxInt64}, {"sub", 0, math.MinInt64, math.MinInt64},
		{"mul", -2, 3, -6}, {"mul", 1 << 32, 1 << 31, math.MinInt64}, {"mul", math.MinInt64, -1, math.MinInt64},
		{"div", 7, 2, 3}, {"div", -7, 2, -3}, {"div", 7, -2, -3}, {"div", 0, 7, 0}, {"div", math.MinInt64, -1, math.MinInt64}, {"div", math.MaxInt64, -1, -math.MaxInt64},
	} {
		for _, into := range []string{"c", "a", "b"} { // the one that is written may be one that is taken from
			program := "let a int, let b int, let c int, block, in a, in b, " + c.op + " " + into + " a b, out " + into + ", end " + into
			wantExec(t, program, []int64{c.one, c.two}, 5, 0, api.Result{Outcome: api.Ended, Value: c.value, Trace: "o" + strconv.FormatInt(c.value, 10)})
		}
	}
	wantExec(t, "let a int, block, set a -1000000000, out a, set a 1000000000, end a", nil, 4, 0, api.Result{Outcome: api.Ended, Value: 1000000000, Trace: "o-1000000000"})
}

func TestP7Inputs(t *testing.T) {
	three := "let a int, block, in a, out a, in a, out a, in a, out a, end a"
	wantExec(t, three, []int64{1, math.MinInt64, math.MaxInt64}, 9, 0, api.Result{Outcome: api.Ended, Value: math.MaxInt64, Trace: "o1 o-9223372036854775808 o9223372036854775807"})
	wantExec(t, three, []int64{1, 2, 3, 4}, 9, 0, api.Result{Outcome: api.Ended, Value: 3, Trace: "o1 o2 o3"})
	wantExec(t, three, []int64{8}, 9, 0, api.Result{Outcome: api.Ended, Trace: "o8 o0 o0"})
	wantExec(t, three, nil, 9, 0, api.Result{Outcome: api.Ended, Trace: "o0 o0 o0"}) // an input that is not there is 0, and no empty cell
}

// TestP7EmptyInts: an int is empty until it is written, whatever takes from it.
func TestP7EmptyInts(t *testing.T) {
	wantExecs(t, []execCase{
		{"end m", api.Broken, 0, "", 0},
		{"set m 0, end m", api.Ended, 0, "", 0},
		{"in m, end m", api.Ended, 0, "", 0},
		{"new p n, load m p, end m", api.Ended, 5, "+1 <1", 1},
		{"out n, out m, end n", api.Broken, 0, "o5", 0},
		{"add m n n, end m", api.Ended, 10, "", 0},
		{"add n m n, end n", api.Broken, 0, "", 0}, {"add n n m, end n", api.Broken, 0, "", 0}, {"add m m m, end n", api.Broken, 0, "", 0},
		{"sub n m n, end n", api.Broken, 0, "", 0}, {"sub n n m, end n", api.Broken, 0, "", 0},
		{"mul n m n, end n", api.Broken, 0, "", 0}, {"mul n n m, end n", api.Broken, 0, "", 0},
		{"div n m n, end n", api.Broken, 0, "", 0}, {"div n n m, end n", api.Broken, 0, "", 0},
		{"if m 1 1, block, end n", api.Broken, 0, "", 0},
		{"new p n, new q m, end n", api.Broken, 0, "+1", 1},
		{"new p n, store p m, end n", api.Broken, 0, "+1", 1},
		{"out n, end n", api.Ended, 5, "o5", 0},
	})
}

// TestP7EmptyCells: so is a place for a box.
func TestP7EmptyCells(t *testing.T) {
	for _, place := range []string{"p", "x.a", "x.b", "o.s"} {
		for _, c := range []struct {
			line, trace string
			live        int
		}{
			{"load n P", "+1 <1", 1}, {"store P n", "+1 >1", 1}, {"free P", "+1 -1", 0},
			{"move q P", "+1", 1}, {"move y.b P", "+1", 1}, {"move l.s P", "+1", 1}, {"move P P", "+1", 1},
			{"some l P", "+1", 1}, {"some o P", "+1", 1},
		} {
			line := strings.ReplaceAll(c.line, "P", place) + ", end n"
			wantExecs(t, []execCase{
				{line, api.Broken, 0, "", 0},
				{"none o, none l, new q n, new y.a n, new y.b n, new l.s n, " + line, api.Broken, 0, "+1 +2 +3 +4", 4}, // other cells, and tags, are nothing to it
				{"new " + place + " n, " + line, api.Ended, 5, c.trace, c.live},
			})
		}
	}
	// of a pair both halves are taken
	wantExecs(t, []execCase{
		{"move y x, end n", api.Broken, 0, "", 0},
		{"new x.a n, move y x, end n", api.Broken, 0, "+1", 1},
		{"new x.b n, move y x, end n", api.Broken, 0, "+1", 1},
		{"new x.a n, move x x, end n", api.Broken, 0, "+1", 1},
		{"new y.a n, new y.b n, move y x, end n", api.Broken, 0, "+1 +2", 2},
		{"new x.a n, new x.b n, move y x, end n", api.Ended, 5, "+1 +2", 2},
		{"new x.a n, new x.b n, move x x, end n", api.Ended, 5, "+1 +2", 2},
	})
}

// TestP7Tags: a tag is empty until it is written, and a content is a cell like any other, whatever the tag says.
func TestP7Tags(t *testing.T) {
	const two = ", block, set m 1, end m, block, set m 2, end m"
	wantExecs(t, []execCase{
		{"match o 1 2" + two, api.Broken, 0, "", 0},
		{"none l, match o 1 2" + two, api.Broken, 0, "", 0},
		{"none o, match o 1 2" + two, api.Ended, 1, "", 0},
		{"new p n, some o p, match o 1 2" + two, api.Ended, 2, "+1", 1},
		{"new p n, some o p, none o, match o 1 2" + two, api.Ended, 1, "+1", 1},
		{"none o, new p n, some o p, match o 1 2" + two, api.Ended, 2, "+1", 1},
		// a content that is written does not write the tag
		{"new o.s n, match o 1 2" + two, api.Broken, 0, "+1", 1},
		{"new p n, move o.s p, match o 1 2" + two, api.Broken, 0, "+1", 1},
		{"none o, new o.s n, match o 1 2" + two, api.Ended, 1, "+1", 1},
		// one that is moved or freed does not either
		{"new p n, some o p, move q o.s, match o 1 2" + two, api.Ended, 2, "+1", 1},
		{"new p n, some o p, free o.s, match o 1 2" + two, api.Ended, 2, "+1 -1", 0},
		// and none does not write the content
		{"new p n, some o p, none o, load m o.s, free o.s, end m", api.Ended, 5, "+1 <1 -1", 0},
		{"new o.s n, load m o.s, store o.s m, end m", api.Ended, 5, "+1 <1 >1", 1},
		// some writes both
		{"new o.s n, new p n, some o p, free o.s, end n", api.Ended, 5, "+1 +2 -2", 1},
		{"new p n, some o p, some o o.s, load m o.s, end m", api.Ended, 5, "+1 <1", 1},
		{"none o, new o.s n, some o o.s, match o 1 2" + two, api.Ended, 2, "+1", 1},
		{"none o, some o p, match o 1 2" + two, api.Broken, 0, "", 0},
	})
}

// TestP7MovedOpts: the tag is copied, and the content if it says some.
func TestP7MovedOpts(t *testing.T) {
	const two = ", block, set m 1, end m, block, set m 2, end m"
	wantExecs(t, []execCase{
		{"move l o, end n", api.Broken, 0, "", 0},
		{"move o o, end n", api.Broken, 0, "", 0},
		{"none l, move l o, end n", api.Broken, 0, "", 0},
		{"new o.s n, move l o, end n", api.Broken, 0, "+1", 1}, // the tag is empty, though the content is not
		{"none o, move l o, match l 1 2" + two, api.Ended, 1, "", 0},
		{"none o, move o o, match o 1 2" + two, api.Ended, 1, "", 0},
		{"none o, move l o, match o 1 2" + two, api.Ended, 1, "", 0}, // it stays where it was, too
		{"new p n, some o p, move l o, match l 1 2" + two, api.Ended, 2, "+1", 1},
		{"new p n, some o p, move l o, match o 1 2" + two, api.Ended, 2, "+1", 1},
		{"new p n, some o p, move l o, load m l.s, load m o.s, end m", api.Ended, 5, "+1 <1 <1", 1},
		{"new p n, some o p, move o o, load m o.s, match o 1 2" + two, api.Ended, 2, "+1 <1", 1},
		// a content is not copied, if the tag says nothing
		{"none o, new o.s n, move l o, load m l.s, end m", api.Broken, 0, "+1", 1},
		{"none o, new o.s n, new l.s n, move l o, free l.s, end n", api.Ended, 5, "+1 +2 -2", 1},
		{"new p n, some o p, none o, move l o, free l.s, end n", api.Broken, 0, "+1", 1},
		// what was written over is not freed
		{"new p n, some o p, new p n, some l p, move l o, free l.s, free p, end n", api.Ended, 5, "+1 +2 -1 -2", 0},
		{"new p n, some l p, none o, move l o, match l 1 2" + two, api.Ended, 1, "+1", 1},
		// the content that is copied may name a freed box
		{"new p n, some o p, free p, move l o, load m l.s, end m", api.Broken, 0, "+1 -1", 0},
		{"new p n, some o p, free p, move l o, match l 1 2" + two, api.Ended, 2, "+1 -1", 0},
	})
}

// TestP7Copies: what is copied stays where it was, too, and both name one box.
func TestP7Copies(t *testing.T) {
	wantExecs(t, []execCase{
		{"new p n, move q p, set m 9, store q m, load m p, end m", api.Ended, 9, "+1 >1 <1", 1},
		{"new p n, move q p, free p, end n", api.Ended, 5, "+1 -1", 0},
		{"new p n, move q p, free q, load n p, end n", api.Broken, 0, "+1 -1", 0},
		{"new p n, move q p, new p n, free p, load m q, end m", api.Ended, 5, "+1 +2 -2 <1", 1}, // the copy goes on naming the first one
		{"new p n, new q n, move p q, free p, free q, end n", api.Broken, 0, "+1 +2 -2", 1},
		{"new p n, move p p, free p, end n", api.Ended, 5, "+1 -1", 0},
		{"new x.a n, new x.b n, move y x, free y.a, free y.b, free x.a, end n", api.Broken, 0, "+1 +2 -1 -2", 0},
		{"new x.a n, new x.b n, move y x, free y.b, free x.a, end n", api.Ended, 5, "+1 +2 -2 -1", 0},
		{"new x.a n, set m 9, new x.b m, move y x, load n y.a, load m y.b, sub m m n, end m", api.Ended, 4, "+1 +2 <1 <2", 2},
		{"new x.a n, new x.b n, move x x, free x.b, free x.a, end n", api.Ended, 5, "+1 +2 -2 -1", 0},
		{"new x.a n, move x.b x.a, free x.b, load n x.a, end n", api.Broken, 0, "+1 -1", 0},
		{"new y.a n, new y.b n, new x.a n, new x.b n, move y x, free y.a, free y.b, end n", api.Ended, 5, "+1 +2 +3 +4 -3 -4", 2},
		{"new p n, some o p, free p, load m o.s, end m", api.Broken, 0, "+1 -1", 0},
		{"new p n, some o p, load m p, free o.s, end m", api.Ended, 5, "+1 <1 -1", 0},
		{"new p n, some o p, some l o.s, load m o.s, load m l.s, end m", api.Ended, 5, "+1 <1 <1", 1},
	})
}

// TestP7BehindFreeing: a box that is freed can be named, but not used or freed once more.
func TestP7BehindFreeing(t *testing.T) {
	for _, place := range []string{"p", "x.a", "x.b", "o.s"} {
		for _, l := range []string{"load n P", "store P n", "free P"} {
			wantExecs(t, []execCase{
				{strings.ReplaceAll("new P n, free P, "+l+", end n", "P", place), api.Broken, 0, "+1 -1", 0},
				{strings.ReplaceAll("new P n, free P, new q n, "+l+", end n", "P", place), api.Broken, 0, "+1 -1 +2", 1}, // a new box has a new number
			})
		}
		for _, l := range []string{"move q P", "move P P", "some l P"} {
			wantExecs(t, []execCase{{strings.ReplaceAll("new P n, free P, "+l+", end n", "P", place), api.Ended, 5, "+1 -1", 0}})
		}
	}
	wantExecs(t, []execCase{
		{"new x.a n, new x.b n, free x.a, free x.b, move y x, end n", api.Ended, 5, "+1 +2 -1 -2", 0},
		{"new x.a n, new x.b n, free x.a, free x.b, move y x, load n y.b, end n", api.Broken, 0, "+1 +2 -1 -2", 0},
		{"new p n, free p, new p n, load m p, free p, end m", api.Ended, 5, "+1 -1 +2 <2 -2", 0},
		{"new p n, free p, store p m, end n", api.Broken, 0, "+1 -1", 0},
	})
}

// TestP7NothingIsFreed: by nothing but free.
func TestP7NothingIsFreed(t *testing.T) {
	wantExecs(t, []execCase{
		{"new p n, new p n, new p n, end n", api.Ended, 5, "+1 +2 +3", 3},
		{"new p n, new q n, move p q, end n", api.Ended, 5, "+1 +2", 2},
		{"new p n, some o p, none o, end n", api.Ended, 5, "+1", 1},
		{"new p n, some o p, new p n, some o p, end n", api.Ended, 5, "+1 +2", 2},
		{"new o.s n, new o.s n, end n", api.Ended, 5, "+1 +2", 2},
		{"new x.a n, new x.b n, new y.a n, new y.b n, move y x, end n", api.Ended, 5, "+1 +2 +3 +4", 4},
		{"new p n, new p n, free p, end n", api.Ended, 5, "+1 +2 -2", 1},
	})
}

func TestP7Flags(t *testing.T) {
	const two = ", block, set m 1, end m, block, set m 2, end m"
	for f := range api.MaxFlags {
		flag, other := strconv.Itoa(f)+" ", strconv.Itoa((f+1)%api.MaxFlags)+" "
		wantExecs(t, []execCase{
			{"test " + flag + "1 2" + two, api.Ended, 2, "", 0},
			{"flag " + flag + "1, test " + flag + "1 2" + two, api.Ended, 1, "", 0},
			{"flag " + flag + "1, flag " + flag + "1, test " + flag + "1 2" + two, api.Ended, 1, "", 0},
			{"flag " + flag + "0, test " + flag + "1 2" + two, api.Ended, 2, "", 0},
			{"flag " + flag + "1, flag " + flag + "0, test " + flag + "1 2" + two, api.Ended, 2, "", 0},
			{"flag " + flag + "1, test " + other + "1 2" + two, api.Ended, 2, "", 0},
			{"flag " + flag + "1, flag " + other + "0, test " + flag + "1 2" + two, api.Ended, 1, "", 0},
		})
	}
	wantExecs(t, []execCase{
		{"test 3 1 2, block, end n, block, flag 3 1, out n, test 3 1 2", api.Ended, 5, "o5", 0},
		{"flag 7 1, goto 1, block, out n, test 7 2 3, block, flag 7 0, goto 1, block, end n", api.Ended, 5, "o5 o5", 0},
	})
}

func TestP7WaysOn(t *testing.T) {
	wantExecs(t, []execCase{
		{"goto 2, block, end m, block, set m 8, goto 1", api.Ended, 8, "", 0},
		{"if n 1 2, block, set m 1, end m, block, set m 2, end m", api.Ended, 1, "", 0},
		{"sub n n n, if n 1 2, block, set m 1, end m, block, set m 2, end m", api.Ended, 2, "", 0},
		{"set n -1, if n 1 2, block, set m 1, end m, block, set m 2, end m", api.Ended, 1, "", 0},
		{"set m 1, goto 1, block, new p n, sub n n m, if n 1 2, block, load m p, end m", api.Ended, 1, "+1 +2 +3 +4 +5 <5", 5},
	})
}

// TestP7Tired: every statement and every terminator takes one fuel, and the one for which there is none is not done.
func TestP7Tired(t *testing.T) {
	program := "let n int, let p box, block, in n, new p n, flag 0 1, test 0 1 0, block, store p n, if n 2 2, block, free p, end n"
	for fuel, want := range []api.Result{
		{Outcome: api.Tired},
		{Outcome: api.Tired},
		{Outcome: api.Tired, Trace: "+1", Live: 1},
		{Outcome: api.Tired, Trace: "+1", Live: 1},
		{Outcome: api.Tired, Trace: "+1", Live: 1},
		{Outcome: api.Tired, Trace: "+1 >1", Live: 1},
		{Outcome: api.Tired, Trace: "+1 >1", Live: 1},
		{Outcome: api.Tired, Trace: "+1 >1 -1"},
		{Outcome: api.Ended, Value: 4, Trace: "+1 >1 -1"},
		{Outcome: api.Ended, Value: 4, Trace: "+1 >1 -1"},
	} {
		wantExec(t, program, []int64{4}, fuel, 1, want)
	}
	wantExec(t, "let n int, block, goto 0", nil, api.MaxRawFuel, 0, api.Result{Outcome: api.Tired})
	loop := "let n int, block, in n, goto 1, block, out n, goto 1"
	outs := func(n int) string { return strings.TrimSuffix(strings.Repeat("o0 ", n), " ") }
	wantExec(t, loop, nil, api.MaxRawFuel, 0, api.Result{Outcome: api.Tired, Trace: outs(99999)})
	wantExec(t, loop, nil, api.MaxRawFuel-1, 0, api.Result{Outcome: api.Tired, Trace: outs(99999)})
	wantExec(t, loop, nil, api.MaxRawFuel-2, 0, api.Result{Outcome: api.Tired, Trace: outs(99998)})
	wantExec(t, loop, nil, api.MaxFuel+1, 0, api.Result{Outcome: api.Tired, Trace: outs(500)})
	// a line without fuel is neither Broken nor Full nor Divided
	wantExec(t, "let n int, block, end n", nil, 0, 0, api.Result{Outcome: api.Tired})
	wantExec(t, "let n int, block, end n", nil, 1, 0, api.Result{Outcome: api.Broken})
	wantExec(t, "let n int, let p box, block, in n, new p n, end n", nil, 1, 0, api.Result{Outcome: api.Tired})
	wantExec(t, "let n int, block, in n, div n n n, end n", nil, 1, 0, api.Result{Outcome: api.Tired})
	// the most lines that there may be, to the last one
	long := "let n int, block, in n" + strings.Repeat(", out n", api.MaxRawLines-4) + ", end n"
	wantExec(t, long, nil, api.MaxRawLines-2, 0, api.Result{Outcome: api.Ended, Trace: outs(api.MaxRawLines - 4)})
	wantExec(t, long, nil, api.MaxRawLines-3, 0, api.Result{Outcome: api.Tired, Trace: outs(api.MaxRawLines - 4)})
}

func TestP7Full(t *testing.T) {
	five := raw + "new p n, new p n, new x.a n, new o.s n, new q n, end n"
	for room, trace := range []string{"", "+1", "+1 +2", "+1 +2 +3", "+1 +2 +3 +4"} {
		wantExec(t, five, nil, 9, room, api.Result{Outcome: api.Full, Trace: trace, Live: room})
	}
	wantExec(t, five, nil, 9, 5, api.Result{Outcome: api.Ended, Trace: "+1 +2 +3 +4 +5", Live: 5})
	// what is freed makes room
	wantExec(t, raw+"new p n, free p, new p n, free p, new q n, end n", nil, 9, 1, api.Result{Outcome: api.Ended, Trace: "+1 -1 +2 -2 +3", Live: 1})
	wantExec(t, raw+"new p n, free p, new p n, new q n, end n", nil, 9, 1, api.Result{Outcome: api.Full, Trace: "+1 -1 +2", Live: 1})
	// the greatest room
	var made []string
	for i := range api.MaxRoom {
		made = append(made, "+"+strconv.Itoa(i+1))
	}
	wantExec(t, raw+"goto 1, block, new p n, goto 1", nil, api.MaxRawFuel, api.MaxRoom, api.Result{Outcome: api.Full, Trace: strings.Join(made, " "), Live: api.MaxRoom})
	// a run without a box needs no room
	wantExec(t, raw+"none o, move l o, end n", nil, 9, 0, api.Result{Outcome: api.Ended})
}

func TestP7Divided(t *testing.T) {
	program := "let n int, let m int, let p box, block, in n, in m, new p n, out n, div m n m, out m, end m"
	wantExec(t, program, []int64{6, 0}, 9, 1, api.Result{Outcome: api.Divided, Trace: "+1 o6", Live: 1})
	wantExec(t, program, []int64{0, 0}, 5, 1, api.Result{Outcome: api.Divided, Trace: "+1 o0", Live: 1})
	wantExec(t, program, []int64{6, 0}, 4, 1, api.Result{Outcome: api.Tired, Trace: "+1 o6", Live: 1})
	wantExec(t, program, []int64{6, 3}, 9, 1, api.Result{Outcome: api.Ended, Value: 2, Trace: "+1 o6 o2", Live: 1})
}

// TestP7BrokenFirst: Broken is told in place of Full and Divided; Full is told of a new whatever P's cell has.
func TestP7BrokenFirst(t *testing.T) {
	wantExec(t, raw+"new p m, end n", nil, 9, 0, api.Result{Outcome: api.Broken})
	wantExec(t, raw+"new p n, new q m, end n", nil, 9, 1, api.Result{Outcome: api.Broken, Trace: "+1", Live: 1})
	wantExec(t, raw+"new p n, end n", nil, 9, 0, api.Result{Outcome: api.Full})
	wantExec(t, raw+"new p n, new p n, end n", nil, 9, 1, api.Result{Outcome: api.Full, Trace: "+1", Live: 1})
	wantExec(t, raw+"new o.s n, end n", nil, 9, 0, api.Result{Outcome: api.Full})
	wantExec(t, raw+"div n m n, end n", nil, 9, 0, api.Result{Outcome: api.Broken}) // n is 0
	wantExec(t, raw+"div n n m, end n", nil, 9, 0, api.Result{Outcome: api.Broken})
	wantExec(t, raw+"div m n n, end n", nil, 9, 0, api.Result{Outcome: api.Divided}) // m is only written
}
