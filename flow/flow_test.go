package flow

import (
	"slices"
	"strings"
	"testing"

	"stow/api"
	"stow/prog"
)

func read(t *testing.T, lines string) *prog.Program {
	t.Helper()
	p, e, at := prog.Read(strings.ReplaceAll(lines, ", ", "\n"))
	if e != api.OK {
		t.Fatalf("Read(%q) = %d, %d", lines, e, at)
	}
	return p
}

func followed(t *testing.T, lines string) ways {
	return waysOf(read(t, lines))
}

// TestFollow: what may be where ahead of each block.
func TestFollow(t *testing.T) {
	w := followed(t, "let n int, let p box, let x pair, let o opt, block, in n, new p n, new x.b n, none o, if n 1 2, block, some o p, match o 2 1, block, drop o.s, goto 2, block, end n")
	n, p, a, b, o := 0, 2, 4, 5, 6
	want := [][5]May{
		{Gone, Gone, Gone, Gone, Gone},
		{There, Gone | There, Gone, There, Nothing | There},
		{There, Gone | There, Gone, There, Nothing | Hollow},
		{0, 0, 0, 0, 0}, // it is never come to
	}
	for i, s := range w.entry {
		if got := [5]May{s[n], s[p], s[a], s[b], s[o]}; got != want[i] {
			t.Errorf("ahead of block %d: %v, want %v", i, got, want[i])
		}
	}
	if len(w.open) != 0 {
		t.Errorf("still open: %v", w.open)
	}
}

// TestEntries: what is given of all blocks is what was followed, and tells which are come to.
func TestEntries(t *testing.T) {
	lines := "let n int, let p box, block, in n, if n 0 2, block, drop p, goto 2, block, new p n, goto 2"
	entries := Entries(read(t, lines))
	if !slices.Equal(entries, followed(t, lines).entry) {
		t.Errorf("Entries = %v", entries)
	}
	for b, want := range []bool{true, false, true} {
		if entries[b].Reached() != want {
			t.Errorf("block %d is reached: %t", b, !want)
		}
	}
}

// TestTakeAndPass: behind the taking nothing is written yet; a thing that is moved to itself is not there in between.
func TestTakeAndPass(t *testing.T) {
	const p, a, b, o, l = 2, 4, 5, 6, 8
	for _, c := range []struct {
		line         string
		ahead        [5]May // of p, x.a, x.b, o, l
		taken, after [5]May
	}{
		{"new p n", [5]May{Gone, Gone, Gone, Gone, Gone}, [5]May{Gone, Gone, Gone, Gone, Gone}, [5]May{There, Gone, Gone, Gone, Gone}},
		{"move p p", [5]May{There, Gone, Gone, Gone, Gone}, [5]May{Gone, Gone, Gone, Gone, Gone}, [5]May{There, Gone, Gone, Gone, Gone}},
		{"move p x.b", [5]May{Gone | There, There, There, Gone, Gone}, [5]May{Gone | There, There, Gone, Gone, Gone}, [5]May{There, There, Gone, Gone, Gone}},
		{"move x x", [5]May{Gone, There, There, Gone, Gone}, [5]May{Gone, Gone, Gone, Gone, Gone}, [5]May{Gone, There, There, Gone, Gone}},
		{"move o l", [5]May{Gone, Gone, Gone, Hollow | There, Nothing | There}, [5]May{Gone, Gone, Gone, Hollow | There, Gone}, [5]May{Gone, Gone, Gone, Nothing | There, Gone}},
		{"move o o", [5]May{Gone, Gone, Gone, Nothing | There, Gone}, [5]May{Gone, Gone, Gone, Gone, Gone}, [5]May{Gone, Gone, Gone, Nothing | There, Gone}},
		{"some o o.s", [5]May{Gone, Gone, Gone, There, Gone}, [5]May{Gone, Gone, Gone, Hollow, Gone}, [5]May{Gone, Gone, Gone, There, Gone}},
		{"some o p", [5]May{There, Gone, Gone, There, Gone}, [5]May{Gone, Gone, Gone, There, Gone}, [5]May{Gone, Gone, Gone, There, Gone}},
		{"drop x", [5]May{There, There, Gone | There, There, Gone}, [5]May{There, There, Gone | There, There, Gone}, [5]May{There, Gone, Gone, There, Gone}},
		{"drop o.s", [5]May{Gone, Gone, Gone, There, Gone}, [5]May{Gone, Gone, Gone, There, Gone}, [5]May{Gone, Gone, Gone, Hollow, Gone}},
		{"none o", [5]May{Gone, Gone, Gone, There, Gone}, [5]May{Gone, Gone, Gone, There, Gone}, [5]May{Gone, Gone, Gone, Nothing, Gone}},
	} {
		program := read(t, "let n int, let p box, let x pair, let o opt, let l opt, block, "+c.line+", end n")
		s := State{p: c.ahead[0], a: c.ahead[1], b: c.ahead[2], o: c.ahead[3], l: c.ahead[4]}
		line := program.Blocks[0][0]
		taken, after := s, s
		taken.Take(program, line)
		after.Pass(program, line)
		if got := [5]May{taken[p], taken[a], taken[b], taken[o], taken[l]}; got != c.taken {
			t.Errorf("behind the taking of %q: %v, want %v", c.line, got, c.taken)
		}
		if got := [5]May{after[p], after[a], after[b], after[o], after[l]}; got != c.after {
			t.Errorf("behind %q: %v, want %v", c.line, got, c.after)
		}
	}
}

func TestTakeLeast(t *testing.T) {
	w := ways{entry: make([]State, 20), open: map[int]struct{}{7: {}, 3: {}, 19: {}, 0: {}}}
	for _, want := range []int{0, 3, 7, 19} {
		if got := w.takeLeast(); got != want {
			t.Errorf("takeLeast = %d, want %d", got, want)
		}
	}
	if len(w.open) != 0 {
		t.Errorf("still open: %v", w.open)
	}
}

func TestLacks(t *testing.T) {
	s := State{0: There, 2: There | Gone, 4: There, 5: Gone, 6: Nothing | Hollow}
	n, p, a, b, o := prog.Place{Local: 0}, prog.Place{Local: 1}, prog.Place{Local: 2, Part: prog.HalfA}, prog.Place{Local: 2, Part: prog.HalfB}, prog.Place{Local: 3, Part: prog.Content}
	if s.lacks(There) || s.lacks(There, n) || s.lacks(There, n, a) || s.lacks(There|Gone, n, p, a, b) || s.lacks(Nothing|Hollow, o) {
		t.Error("something is lacking that is there")
	}
	if !s.lacks(There, p) || !s.lacks(There, n, a, b) || !s.lacks(There, b, n) || !s.lacks(There|Hollow, o) || !s.lacks(There|Nothing, o) {
		t.Error("nothing is lacking where something may be")
	}
}

// TestFirstFault: the fault of the least line is told, whichever is found first, and nothing is left open.
func TestFirstFault(t *testing.T) {
	lines := "let n int, let p box, block, in n, goto 2, block, load n p, end n, block, load n p, goto 1"
	if at, found := FirstFault(read(t, lines)); !found || at != 6 {
		t.Errorf("FirstFault = %d, %t, want 6", at, found)
	}
	w := followed(t, lines)
	w.firstFault()
	if len(w.open) != 0 {
		t.Errorf("still open: %v", w.open)
	}
	if at, found := FirstFault(read(t, "let n int, block, in n, goto 0")); found || at != 0 {
		t.Errorf("FirstFault = %d, %t, want none", at, found)
	}
}
