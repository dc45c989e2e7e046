package stow_test

import (
	"math"
	"strconv"
	"strings"
	"testing"

	"stow/api"
	"stow/stow"
)

// wantRun fails, if Run answers otherwise.
func wantRun(t *testing.T, promise, lines string, inputs []int64, fuel, room int, want api.Result) {
	t.Helper()
	if r, e, at := stow.Run(text(lines), inputs, fuel, room); r != want || e != api.OK || at != 0 {
		t.Errorf("%s: Run(%q, %v, %d, %d) = %+v, %d, %d, want %+v", promise, lines, inputs, fuel, room, r, e, at, want)
	}
}

type runCase struct {
	lines string // behind head
	value int64
	trace string
}

// wantEnds: each of them is Ended, and no box is left. The input is 5.
func wantEnds(t *testing.T, cases []runCase) {
	t.Helper()
	for _, c := range cases {
		wantRun(t, "P4", head+c.lines, []int64{5}, api.MaxFuel, api.MaxRoom, api.Result{Outcome: api.Ended, Value: c.value, Trace: c.trace})
	}
}

// TestP4Examples: examples 1 to 4 of the document.
func TestP4Examples(t *testing.T) {
	one := "let n int, let p box, block, set n 5, new p n, load n p, end n"
	wantRun(t, "P4", one, nil, api.MaxFuel, 1, api.Result{Outcome: api.Ended, Value: 5, Trace: "+1 <1 -1"})
	wantRun(t, "P4", one, nil, api.MaxFuel, 0, api.Result{Outcome: api.Full})
	wantRun(t, "P4", one, nil, 2, 1, api.Result{Outcome: api.Tired, Trace: "+1", Live: 1})
	wantRun(t, "P4", "let n int, let p box, block, set n 5, new p n, new p n, load n p, end n", nil, api.MaxFuel, 1, api.Result{Outcome: api.Ended, Value: 5, Trace: "+1 -1 +2 <2 -2"})
	join := "let n int, let p box, let q box, block, in n, new p n, if n 1 2, block, move q p, goto 2, block, end n"
	wantRun(t, "P4", join, []int64{7}, api.MaxFuel, 1, api.Result{Outcome: api.Ended, Value: 7, Trace: "+1 -1"})
	wantRun(t, "P4", join, []int64{0}, api.MaxFuel, 1, api.Result{Outcome: api.Ended, Trace: "+1 -1"})
	wantRun(t, "P4", "let n int, let p box, let x opt, block, set n 1, new p n, some x p, match x 1 2, block, end n, block, load n x.s, move p x.s, end n", nil, api.MaxFuel, 1, api.Result{Outcome: api.Ended, Value: 1, Trace: "+1 <1 -1"})
}

// TestP4Errors: the error of Check comes first, with its place, then that of the numbers; with an error there is no result.
func TestP4Errors(t *testing.T) {
	small := "let n int, block, in n, end n"
	for _, c := range []struct {
		lines              string
		inputs, fuel, room int
		e                  api.Errno
		at                 int
	}{
		{strings.Repeat(", ", api.MaxLines), 0, 0, 0, api.ErrLong, 0},
		{small + ", oops", 0, 0, 0, api.ErrForm, 4},
		{"let n int, block, in n, goto 1", 0, 0, 0, api.ErrName, 3},
		{"let n int, block, in n, drop n, end n", 0, 0, 0, api.ErrType, 3},
		{"let n int, let p box, block, in n, load n p, end n", 0, 0, 0, api.ErrUse, 4},
		{"let n int, let p box, block, in n, load n p, end n", 101, -1, 51, api.ErrUse, 4},
		{"", 101, -1, 51, api.ErrForm, 0},
		{small, api.MaxInputs + 1, 9, 9, api.ErrConf, 0},
		{small, 1 << 20, 9, 9, api.ErrConf, 0},
		{small, 0, -1, 9, api.ErrConf, 0},
		{small, 0, api.MaxFuel + 1, 9, api.ErrConf, 0},
		{small, 0, api.MaxRawFuel, 9, api.ErrConf, 0},
		{small, 0, math.MinInt, 9, api.ErrConf, 0},
		{small, 0, math.MaxInt, 9, api.ErrConf, 0},
		{small, 0, 9, -1, api.ErrConf, 0},
		{small, 0, 9, api.MaxRoom + 1, api.ErrConf, 0},
		{small, 0, 9, math.MinInt, api.ErrConf, 0},
		{small, 0, 9, math.MaxInt, api.ErrConf, 0},
	} {
		r, e, at := stow.Run(text(c.lines), make([]int64, c.inputs), c.fuel, c.room)
		if r != (api.Result{}) || e != c.e || at != c.at {
			t.Errorf("P4: Run(%.50q, %d inputs, %d, %d) = %+v, %d, %d, want %d, %d", c.lines, c.inputs, c.fuel, c.room, r, e, at, c.e, c.at)
		}
	}
	wantRun(t, "P4", small, make([]int64, api.MaxInputs), api.MaxFuel, api.MaxRoom, api.Result{Outcome: api.Ended})
	wantRun(t, "P4", small, nil, 0, 0, api.Result{Outcome: api.Tired})
}

func TestP4Numbers(t *testing.T) {
	for _, c := range []struct {
		op              string
		one, two, value int64
	}{
		{"add", 2, 3, 5}, {"add", -2, -3, -5}, {"add", math.MaxInt64, 1, math.MinInt64}, {"add", math.MinInt64, -1, math.MaxInt64}, {"add", math.MinInt64, math.MinInt64, 0},
		{"sub", 2, 3, -1}, {"sub", 3, -2, 5}, {"sub", math.MinInt64, 1, math.MaxInt64}, {"sub", math.MaxInt64, -1, math.MinInt64}, {"sub", 0, math.MinInt64, math.MinInt64},
		{"mul", 2, 3, 6}, {"mul", -2, 3, -6}, {"mul", 1 << 32, 1 << 31, math.MinInt64}, {"mul", 1 << 32, 1 << 32, 0}, {"mul", math.MinInt64, -1, math.MinInt64}, {"mul", math.MaxInt64, 2, -2},
		{"div", 7, 2, 3}, {"div", -7, 2, -3}, {"div", 7, -2, -3}, {"div", -7, -2, 3}, {"div", 2, 7, 0}, {"div", -2, 7, 0}, {"div", 0, 7, 0}, {"div", math.MinInt64, -1, math.MinInt64}, {"div", math.MinInt64, 1, math.MinInt64}, {"div", math.MaxInt64, -1, -math.MaxInt64}, {"div", math.MinInt64, math.MinInt64, 1},
	} {
		for _, into := range []string{"c", "a", "b"} { // the one that is written may be one that is taken from
			program := "let a int, let b int, let c int, block, in a, in b, " + c.op + " " + into + " a b, out " + into + ", end " + into
			wantRun(t, "P4", program, []int64{c.one, c.two}, 5, 0, api.Result{Outcome: api.Ended, Value: c.value, Trace: "o" + strconv.FormatInt(c.value, 10)})
		}
	}
	wantRun(t, "P4", "let a int, block, in a, add a a a, end a", []int64{1 << 62}, 3, 0, api.Result{Outcome: api.Ended, Value: math.MinInt64})
	wantRun(t, "P4", "let a int, block, set a -1000000000, out a, set a 1000000000, end a", nil, 4, 0, api.Result{Outcome: api.Ended, Value: 1000000000, Trace: "o-1000000000"})
}

func TestP4Inputs(t *testing.T) {
	three := "let a int, block, in a, out a, in a, out a, in a, out a, end a"
	wantRun(t, "P4", three, []int64{1, math.MinInt64, math.MaxInt64}, 9, 0, api.Result{Outcome: api.Ended, Value: math.MaxInt64, Trace: "o1 o-9223372036854775808 o9223372036854775807"})
	wantRun(t, "P4", three, []int64{1, 2, 3, 4}, 9, 0, api.Result{Outcome: api.Ended, Value: 3, Trace: "o1 o2 o3"})
	wantRun(t, "P4", three, []int64{8}, 9, 0, api.Result{Outcome: api.Ended, Trace: "o8 o0 o0"})
	wantRun(t, "P4", three, nil, 9, 0, api.Result{Outcome: api.Ended, Trace: "o0 o0 o0"})
	// the hundredth is reached, and then there is none
	count := "let a int, let b int, let c int, block, set b 100, set c 1, goto 1, block, in a, sub b b c, if b 1 2, block, in b, out b, end a"
	inputs := make([]int64, api.MaxInputs)
	inputs[api.MaxInputs-1] = 77
	wantRun(t, "P4", count, inputs, api.MaxFuel, 0, api.Result{Outcome: api.Ended, Value: 77, Trace: "o0"})
}

func TestP4WaysOn(t *testing.T) {
	wantEnds(t, []runCase{
		{"goto 2, block, end m, block, set m 8, goto 1", 8, ""},
		{"if n 1 2, block, set m 1, end m, block, set m 2, end m", 1, ""},
		{"sub n n n, if n 1 2, block, set m 1, end m, block, set m 2, end m", 2, ""},
		{"set n -1, if n 1 2, block, set m 1, end m, block, set m 2, end m", 1, ""},
		{"match o 1 2, block, set m 1, end m, block, set m 2, end m", 1, ""},
		{"new p n, some o p, match o 1 2, block, set m 1, end m, block, set m 2, end m", 2, "+1 -1"},
		{"new p n, some o p, none o, match o 1 2, block, set m 1, end m, block, set m 2, end m", 1, "+1 -1"},
		{"new p n, some o p, drop o.s, new o.s n, match o 1 2, block, set m 1, end m, block, set m 2, end m", 2, "+1 -1 +2 -2"},
		{"move l o, match l 1 2, block, set m 1, end m, block, set m 2, end m", 1, ""},
		{"new p n, some o p, move l o, match l 1 2, block, set m 1, end m, block, set m 2, end m", 2, "+1 -1"},
		{"set m 1, goto 1, block, out n, sub n n m, if n 1 2, block, end n", 0, "o5 o4 o3 o2 o1"},
	})
}

// TestP4Boxes: what a box has in it goes with it, from place to place.
func TestP4Boxes(t *testing.T) {
	wantEnds(t, []runCase{
		{"new p n, load m p, load m p, end m", 5, "+1 <1 <1 -1"},
		{"new p n, set m 9, store p m, load n p, end n", 9, "+1 >1 <1 -1"},
		{"new p n, set m 9, new q m, move p q, load m p, end m", 9, "+1 +2 -1 <2 -2"},
		{"new p n, move x.a p, move y.b x.a, move q y.b, load m q, end m", 5, "+1 <1 -1"},
		{"new p n, some o p, load m o.s, add m m m, store o.s m, move q o.s, load m q, end m", 10, "+1 <1 >1 <1 -1"},
		{"new x.a n, set m 9, new x.b m, move y x, load n y.a, load m y.b, sub m m n, end m", 4, "+1 +2 <1 <2 -1 -2"},
		{"new p n, some o p, move l o, load m l.s, end m", 5, "+1 <1 -1"},
		{"new x.a n, load m x.a, set n 6, new x.a n, load n x.a, end m", 5, "+1 <1 -1 +2 <2 -2"},
		{"new p n, set n 6, load m p, end m", 5, "+1 <1 -1"},
	})
}

// TestP4Freed: what is written over is freed, behind what is taken, and in its order.
func TestP4Freed(t *testing.T) {
	wantEnds(t, []runCase{
		// boxes
		{"new p n, new p n, new p n, end n", 5, "+1 -1 +2 -2 +3 -3"},
		{"new p n, drop p, drop p, end n", 5, "+1 -1"},
		{"new p n, new q n, move p q, out n, end n", 5, "+1 +2 -1 o5 -2"},
		{"new p n, move p p, out n, end n", 5, "+1 o5 -1"},
		{"new p n, move q p, drop p, out n, end n", 5, "+1 o5 -1"},
		// pairs
		{"new x.b n, new x.a n, drop x, out n, end n", 5, "+1 +2 -2 -1 o5"},
		{"new x.b n, drop x, out n, drop x, end n", 5, "+1 -1 o5"},
		{"new x.a n, new x.b n, drop x.b, drop x.a, out n, end n", 5, "+1 +2 -2 -1 o5"},
		{"new x.a n, new x.b n, new y.b n, new y.a n, move y x, out n, end n", 5, "+1 +2 +3 +4 -4 -3 o5 -1 -2"},
		{"new x.a n, new x.b n, new y.b n, move y x, out n, end n", 5, "+1 +2 +3 -3 o5 -1 -2"},
		{"new x.a n, new x.b n, move x x, out n, end n", 5, "+1 +2 o5 -1 -2"},
		{"new x.a n, new x.b n, move x.a x.b, out n, end n", 5, "+1 +2 -1 o5 -2"},
		{"new x.a n, new x.b n, move x.b x.a, out n, end n", 5, "+1 +2 -2 o5 -1"},
		{"new x.a n, new x.a n, out n, end n", 5, "+1 -1 +2 o5 -2"},
		// opts
		{"new p n, some o p, none o, none o, out n, end n", 5, "+1 -1 o5"},
		{"new p n, some o p, new p n, some o p, out n, end n", 5, "+1 +2 -1 o5 -2"},
		{"new p n, some o p, some o o.s, out n, end n", 5, "+1 o5 -1"},
		{"new p n, some o p, some l o.s, out n, end n", 5, "+1 o5 -1"},
		{"new p n, some o p, drop o, drop o, out n, end n", 5, "+1 -1 o5"},
		{"new p n, some o p, drop o.s, drop o.s, drop o, out n, end n", 5, "+1 -1 o5"},
		{"new p n, some o p, new o.s n, out n, end n", 5, "+1 -1 +2 o5 -2"},
		{"new p n, some o p, move q o.s, new o.s n, out n, end n", 5, "+1 +2 o5 -2 -1"},
		{"new p n, some o p, new p n, move o.s p, out n, end n", 5, "+1 +2 -1 o5 -2"},
		{"new p n, some o p, move o.s o.s, out n, end n", 5, "+1 o5 -1"},
		{"new p n, some o p, move q o.s, none o, out n, end n", 5, "+1 o5 -1"},
		{"new p n, some o p, move o o, out n, end n", 5, "+1 o5 -1"},
		{"new p n, some l p, move l o, out n, end n", 5, "+1 -1 o5"},
		{"new p n, some o p, new p n, some l p, move l o, out n, end n", 5, "+1 +2 -2 o5 -1"},
	})
}

// TestP4FreedAtTheEnd: the last local first, of a pair the half a ahead of b, behind A's being looked at.
func TestP4FreedAtTheEnd(t *testing.T) {
	wantEnds(t, []runCase{
		{"new p n, new q n, new x.a n, new x.b n, new y.a n, new y.b n, some o p, new p n, some l p, new p n, end n", 5, "+1 +2 +3 +4 +5 +6 +7 +8 -7 -1 -5 -6 -3 -4 -2 -8"},
		{"new y.b n, new x.b n, new q n, end n", 5, "+1 +2 +3 -1 -2 -3"},
		{"new p n, some o p, move q o.s, end n", 5, "+1 -1"},
		{"new p n, drop p, end n", 5, "+1 -1"},
	})
	wantRun(t, "P4", "let o opt, let p box, let n int, let x pair, block, in n, new p n, some o p, new p n, new x.b n, new x.a n, end n", []int64{3}, 9, 4, api.Result{Outcome: api.Ended, Value: 3, Trace: "+1 +2 +3 +4 -4 -3 -2 -1"})
}

// TestP4Tired: every statement and every terminator takes one fuel, and the one for which there is none is not done.
func TestP4Tired(t *testing.T) {
	program := "let n int, let p box, block, in n, new p n, out n, goto 1, block, store p n, if n 2 2, block, drop p, end n"
	for fuel, want := range []api.Result{
		{Outcome: api.Tired},
		{Outcome: api.Tired},
		{Outcome: api.Tired, Trace: "+1", Live: 1},
		{Outcome: api.Tired, Trace: "+1 o4", Live: 1},
		{Outcome: api.Tired, Trace: "+1 o4", Live: 1},
		{Outcome: api.Tired, Trace: "+1 o4 >1", Live: 1},
		{Outcome: api.Tired, Trace: "+1 o4 >1", Live: 1},
		{Outcome: api.Tired, Trace: "+1 o4 >1 -1"},
		{Outcome: api.Ended, Value: 4, Trace: "+1 o4 >1 -1"},
		{Outcome: api.Ended, Value: 4, Trace: "+1 o4 >1 -1"},
	} {
		wantRun(t, "P4", program, []int64{4}, fuel, 1, want)
	}
	wantRun(t, "P4", "let n int, block, goto 0", nil, api.MaxFuel, 0, api.Result{Outcome: api.Tired})
	loop := "let n int, block, in n, goto 1, block, out n, goto 1"
	wantRun(t, "P4", loop, nil, api.MaxFuel, 0, api.Result{Outcome: api.Tired, Trace: strings.TrimSuffix(strings.Repeat("o0 ", 499), " ")})
	wantRun(t, "P4", loop, nil, api.MaxFuel-1, 0, api.Result{Outcome: api.Tired, Trace: strings.TrimSuffix(strings.Repeat("o0 ", 499), " ")})
	wantRun(t, "P4", loop, nil, api.MaxFuel-2, 0, api.Result{Outcome: api.Tired, Trace: strings.TrimSuffix(strings.Repeat("o0 ", 498), " ")})
	// an end without fuel frees nothing; a line without fuel is neither Full nor Divided
	wantRun(t, "P4", "let n int, let p box, block, in n, new p n, end n", nil, 2, 1, api.Result{Outcome: api.Tired, Trace: "+1", Live: 1})
	wantRun(t, "P4", "let n int, let p box, block, in n, new p n, end n", nil, 1, 0, api.Result{Outcome: api.Tired})
	wantRun(t, "P4", "let n int, block, in n, div n n n, end n", nil, 1, 0, api.Result{Outcome: api.Tired})
}

func TestP4Full(t *testing.T) {
	five := "let n int, let p box, let x pair, let q box, block, in n, new p n, new x.a n, new x.b n, new q n, end n"
	for room, trace := range []string{"", "+1", "+1 +2", "+1 +2 +3"} {
		wantRun(t, "P4", five, nil, 9, room, api.Result{Outcome: api.Full, Trace: trace, Live: room})
	}
	wantRun(t, "P4", five, nil, 9, 4, api.Result{Outcome: api.Ended, Trace: "+1 +2 +3 +4 -4 -2 -3 -1"})
	// what was in the place is freed ahead of that, and makes room
	again := "let n int, let p box, let q box, block, in n, new p n, new p n, new q n, new p n, end n"
	wantRun(t, "P4", again, nil, 9, 1, api.Result{Outcome: api.Full, Trace: "+1 -1 +2", Live: 1})
	wantRun(t, "P4", again, nil, 9, 2, api.Result{Outcome: api.Ended, Trace: "+1 -1 +2 +3 -2 +4 -3 -4"})
	wantRun(t, "P4", "let n int, let o opt, let p box, block, in n, new p n, some o p, new o.s n, end n", nil, 9, 1, api.Result{Outcome: api.Ended, Trace: "+1 -1 +2 -2"})
	// what is freed elsewhere makes room too
	wantRun(t, "P4", "let n int, let p box, let q box, block, in n, new p n, drop p, new q n, end n", nil, 9, 1, api.Result{Outcome: api.Ended, Trace: "+1 -1 +2 -2"})
	// a run without a box needs no room
	wantRun(t, "P4", "let n int, let p box, let o opt, block, in n, none o, drop p, end n", nil, 9, 0, api.Result{Outcome: api.Ended})
}

func TestP4Divided(t *testing.T) {
	program := "let n int, let m int, let p box, block, in n, in m, new p n, out n, div m n m, out m, end m"
	wantRun(t, "P4", program, []int64{6, 0}, 9, 1, api.Result{Outcome: api.Divided, Trace: "+1 o6", Live: 1})
	wantRun(t, "P4", program, []int64{0, 0}, 5, 1, api.Result{Outcome: api.Divided, Trace: "+1 o0", Live: 1})
	wantRun(t, "P4", program, []int64{6, 0}, 4, 1, api.Result{Outcome: api.Tired, Trace: "+1 o6", Live: 1})
	wantRun(t, "P4", program, []int64{6, 3}, 9, 1, api.Result{Outcome: api.Ended, Value: 2, Trace: "+1 o6 o2 -1"})
	wantRun(t, "P4", program, []int64{math.MinInt64, 0}, 9, 1, api.Result{Outcome: api.Divided, Trace: "+1 o-9223372036854775808", Live: 1})
}
