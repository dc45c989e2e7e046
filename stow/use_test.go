package stow_test

import (
	"testing"

	"stow/api"
)

// right is the place of a program in which nothing is used that may not be there.
const right = -1

type useCase struct {
	lines string // behind head
	at    int    // from the first of these lines on
}

func wantUses(t *testing.T, cases []useCase) {
	t.Helper()
	for _, c := range cases {
		if c.at == right {
			wants(t, "P3", head+c.lines, api.OK, 0)
		} else {
			wants(t, "P3", head+c.lines, api.ErrUse, next+c.at)
		}
	}
}

func TestP3UseOfInts(t *testing.T) {
	wantUses(t, []useCase{
		{"end n", right}, {"end m", 0}, {"out n, end n", right}, {"out m, end n", 0},
		{"set m 1, end m", right}, {"in m, end m", right}, {"set m 1, out m, end m", right},
		{"add m n n, end m", right}, {"add m m n, end n", 0}, {"add m n m, end n", 0}, {"add n m m, end n", 0},
		{"sub m n n, end m", right}, {"sub m m n, end n", 0}, {"sub m n m, end n", 0},
		{"mul m n n, end m", right}, {"mul m m n, end n", 0}, {"mul m n m, end n", 0},
		{"div m n n, end m", right}, {"div m m n, end n", 0}, {"div m n m, end n", 0},
		{"if n 1 1, block, end n", right}, {"if m 1 1, block, end n", 0},
		{"new p m, end n", 0}, {"new p n, store p m, end n", 1}, {"new p n, load m p, end m", right},
	})
}

func TestP3UseOfBoxes(t *testing.T) {
	wantUses(t, []useCase{
		{"load n p, end n", 0}, {"store p n, end n", 0}, {"new p n, load n p, end n", right}, {"new p n, store p n, end n", right},
		{"new p n, new p n, load n p, end n", right}, {"new p n, drop p, load n p, end n", 2}, {"new p n, drop p, store p n, end n", 2},
		{"drop p, drop p, end n", right}, {"new p n, drop p, new p n, load n p, end n", right},
		{"move p q, end n", 0}, {"new q n, move p q, load n p, end n", right}, {"new q n, move p q, load n q, end n", 2}, {"new q n, move p q, move p q, end n", 2},
		{"new p n, move p p, load n p, end n", right}, {"move p p, end n", 0},
		{"new p n, new q n, move p q, load n p, end n", right}, {"new p n, load n p, load n p, store p n, end n", right},
	})
}

func TestP3UseOfPairs(t *testing.T) {
	wantUses(t, []useCase{
		{"load n x.a, end n", 0}, {"load n x.b, end n", 0}, {"new x.a n, load n x.a, end n", right}, {"new x.a n, load n x.b, end n", 1}, {"new x.b n, load n x.b, end n", right}, {"new x.b n, load n x.a, end n", 1},
		{"new x.a n, move y x, end n", 1}, {"new x.b n, move y x, end n", 1}, {"move y x, end n", 0}, {"move x x, end n", 0},
		{"new x.a n, new x.b n, move y x, load n y.a, load n y.b, end n", right}, {"new x.a n, new x.b n, move y x, load n x.a, end n", 3}, {"new x.a n, new x.b n, move y x, load n x.b, end n", 3},
		{"new x.a n, new x.b n, move x x, load n x.a, load n x.b, end n", right},
		{"new x.a n, new x.b n, move p x.a, move y x, end n", 3}, {"new x.a n, new x.b n, move p x.b, move y x, end n", 3}, {"new x.a n, new x.b n, move p x.a, load n x.b, move x.a p, move y x, end n", right},
		{"new x.a n, move x.b x.a, load n x.b, load n x.a, end n", 3}, {"new x.a n, move y.b x.a, load n y.b, end n", right},
		{"new x.a n, new x.b n, drop x.a, load n x.b, load n x.a, end n", 4}, {"new x.a n, new x.b n, drop x, load n x.a, end n", 3}, {"new x.a n, new x.b n, drop x, load n x.b, end n", 3}, {"drop x, drop x.a, drop x.b, end n", right},
	})
}

func TestP3UseOfOpts(t *testing.T) {
	wantUses(t, []useCase{
		// away
		{"match l 0 0", 0}, {"move o l, end n", 0}, {"move l l, end n", 0}, {"load n l.s, end n", 0}, {"store l.s n, end n", 0}, {"move p l.s, end n", 0}, {"new l.s n, end n", 0}, {"drop l.s, end n", 0}, {"new p n, move l.s p, end n", 1}, {"drop l, drop l, end n", right},
		// nothing
		{"match o 1 1, block, end n", right}, {"move l o, match l 1 1, block, end n", right}, {"move l o, match o 1 1, block, end n", 1}, {"move o o, match o 1 1, block, end n", right}, {"load n o.s, end n", 0}, {"store o.s n, end n", 0}, {"move p o.s, end n", 0}, {"new o.s n, end n", 0}, {"drop o.s, end n", 0}, {"new p n, move o.s p, end n", 1}, {"drop o, match o 0 0", 1}, {"none o, none o, end n", right},
		// whole
		{"some o p, end n", 0}, {"new p n, some o p, load n o.s, store o.s n, match o 1 1, block, end n", right}, {"new p n, some o p, load n p, end n", 2}, {"new p n, some l p, new l.s n, load n l.s, end n", right}, {"new p n, some o p, move l o, load n l.s, end n", right}, {"new p n, some o p, move l o, load n o.s, end n", 3}, {"new p n, some o p, move o o, load n o.s, end n", right}, {"new p n, some o p, none o, load n o.s, end n", 3}, {"new p n, some o p, drop o, match o 0 0", 3}, {"new p n, some o p, some o o.s, load n o.s, end n", right}, {"new p n, some o p, move o.s o.s, load n o.s, end n", right}, {"new p n, new q n, some o p, move o.s q, load n o.s, end n", right}, {"new p n, new q n, some o p, move o.s q, load n q, end n", 4}, {"new p n, some o p, some l o.s, load n l.s, end n", right}, {"new p n, some o p, some l o.s, match o 0 0", 3},
		// hollow
		{"new p n, some o p, move q o.s, load n q, end n", right}, {"new p n, some o p, move q o.s, load n o.s, end n", 3}, {"new p n, some o p, move q o.s, match o 0 0", 3}, {"new p n, some o p, move q o.s, move l o, end n", 3}, {"new p n, some o p, drop o.s, move q o.s, end n", 3}, {"new p n, some o p, drop o.s, drop o.s, drop o, end n", right}, {"new p n, some o p, drop o.s, match o 0 0", 3}, {"new p n, some o p, drop o.s, new o.s n, match o 1 1, block, end n", right}, {"new p n, some o p, move q o.s, move o.s q, load n o.s, end n", right}, {"new p n, some o p, drop o.s, none o, match o 1 1, block, end n", right}, {"new p n, some o p, drop o.s, drop o, drop o.s, end n", 4}, {"new p n, some o p, drop o.s, some l o.s, end n", 3},
	})
}

func TestP3UseOnManyWays(t *testing.T) {
	wantUses(t, []useCase{
		// joins
		{"if n 1 2, block, in m, goto 2, block, end m", 5}, {"if n 1 2, block, in m, goto 3, block, in m, goto 3, block, end m", right},
		{"new p n, if n 1 2, block, drop p, goto 2, block, end n", right}, {"new p n, if n 1 2, block, drop p, goto 2, block, load n p, end n", 6}, {"new p n, if n 2 1, block, drop p, goto 2, block, load n p, end n", 6}, {"new p n, if n 1 2, block, drop p, goto 2, block, new p n, load n p, end n", right},
		{"new x.a n, new x.b n, if n 1 2, block, drop x.b, goto 2, block, load n x.a, move y x, end n", 8},
		{"new p n, some o p, if n 1 2, block, drop o.s, goto 2, block, drop o.s, end n", right}, {"new p n, some o p, if n 1 2, block, drop o, goto 2, block, drop o.s, end n", 7}, {"if n 1 2, block, drop o, goto 2, block, match o 3 3, block, end n", 5},
		{"new p n, if n 1 2, block, some o p, goto 2, block, match o 3 3, block, end n", right}, {"new p n, if n 1 2, block, some o p, goto 2, block, load n o.s, end n", 6},
		// what is moved is on each way what it was
		{"new p n, if n 1 2, block, some o p, goto 2, block, move l o, match l 3 4, block, end n, block, load n l.s, end n", right}, {"new p n, some o p, if n 1 2, block, drop o.s, goto 2, block, move l o, end n", 7},
		// match
		{"match o 1 2, block, end n, block, load n o.s, end n", right}, {"match o 1 2, block, load n o.s, end n, block, end n", 2}, {"match o 1 1, block, load n o.s, end n", 2}, {"match o 1 1, block, match o 1 2, block, load n o.s, end n", right}, {"match o 1 2, block, match o 1 2, block, move p o.s, end n", right},
		{"match o 1 2, block, in m, goto 3, block, goto 3, block, end m", 7}, // both ways, though o is nothing
		{"new p n, some o p, match o 1 2, block, drop p, end m, block, end n", 5},
		// loops
		{"goto 0", right}, {"goto 1, block, new p n, goto 1", right}, {"new p n, goto 1, block, load n p, goto 1", right}, {"new p n, goto 1, block, load n p, drop p, goto 1", 3}, {"new p n, goto 1, block, load n p, drop p, if n 1 2, block, end n", 3}, {"new p n, goto 1, block, load n p, drop p, new p n, if n 1 2, block, load n p, end n", right},
		{"new p n, goto 1, block, move q p, move p q, goto 1", right}, {"new p n, goto 1, block, goto 2, block, goto 3, block, load n p, if n 4 1, block, drop p, goto 1", 7},
		{"new p n, some o p, goto 1, block, match o 2 3, block, end n, block, move q o.s, none o, goto 1", right}, {"new p n, some o p, goto 1, block, match o 2 3, block, end n, block, move q o.s, goto 1", 4},
		// a back way that brings in what is told far ahead
		{"goto 3, block, load n p, goto 2, block, end n, block, new p n, goto 4, block, if n 1 5, block, drop p, goto 1", 2},
		{"goto 3, block, load n p, goto 2, block, end n, block, new p n, goto 4, block, if n 1 5, block, load n p, goto 1", right},
		// lines that cannot be come to
		{"end n, block, load n p, goto 1", right}, {"end n, block, out m, end m", right}, {"goto 2, block, load n p, goto 2, block, end n", right}, {"end n, block, drop p, goto 2, block, out m, goto 1", right},
	})
	// a way may lead back to block 0, where nothing is there at first
	wants(t, "P3", "let n int, let p box, block, load n p, goto 1, block, new p n, goto 0", api.ErrUse, 3)
	wants(t, "P3", "let n int, let p box, block, drop p, in n, goto 1, block, new p n, goto 0", api.OK, 0)
}

// TestP3UseBehindAFault: a way goes on behind a line that needs what is not there, and the first such line is told.
func TestP3UseBehindAFault(t *testing.T) {
	wantUses(t, []useCase{
		{"move q p, load n q, end n", 0},
		{"load n p, load n q, end n", 0},
		{"goto 2, block, load n p, end n, block, load n q, goto 1", 2},
		{"goto 2, block, load n p, end n, block, load n p, goto 1", 2},                              // looking at it does not bring it there
		{"goto 2, block, load n q, end n, block, move q p, goto 1", 5},                              // what is written is there
		{"goto 2, block, load n p, end n, block, move q p, goto 1", 2},                              // what is taken is gone
		{"goto 2, block, out m, end n, block, load m p, goto 1", 5},                                 // what is written is there
		{"goto 2, block, move p l.s, end n, block, new l.s n, goto 1", 5},                           // it is whole then
		{"goto 2, block, new l.s n, end n, block, drop l.s, goto 1", 5},                             // it is hollow then
		{"goto 2, block, drop l.s, end n, block, move p l.s, goto 1", 5},                            // it is hollow then
		{"goto 2, block, load n o.s, end n, block, some o p, goto 1", 5},                            // it is whole then
		{"goto 2, block, match o 3 3, block, match l 1 1, block, end n", 4},                         // o is nothing still
		{"goto 2, block, drop o.s, end n, block, move o l, goto 1", 2},                              // a moved opt is what it was: away
		{"new p n, some l p, drop l.s, goto 2, block, drop o.s, end n, block, move o l, goto 1", 8}, // hollow
		{"goto 2, block, load n y.a, load n y.b, end n, block, new x.a n, move y x, goto 1", 7},
		{"goto 2, block, load n x.a, end n, block, new x.a n, move y x, goto 1", 2},
	})
}
