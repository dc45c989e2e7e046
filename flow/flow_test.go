package flow

import (
	"strings"
	"testing"

	"stow/api"
	"stow/prog"
)

func read(t *testing.T, lines string) *prog.Program {
	t.Helper()
	p, e, at := prog.Read(strings.ReplaceAll(lines, ", ", "\n"))
	if e != api.OK {
		t.Fatalf("Read(%q) = %d, %d", lines, e, at)
	}
	return p
}

func followed(t *testing.T, lines string) ways {
	p := read(t, lines)
	w := ways{p, make([]State, len(p.Blocks)), map[int]struct{}{}}
	w.follow()
	return w
}

// TestFollow: what may be where ahead of each block.
func TestFollow(t *testing.T) {
	w := followed(t, "let n int, let p box, let x pair, let o opt, block, in n, new p n, new x.b n, none o, if n 1 2, block, some o p, match o 2 1, block, drop o.s, goto 2, block, end n")
	n, p, a, b, o := 0, 2, 4, 5, 6
	want := [][5]May{
		{Gone, Gone, Gone, Gone, Gone},
		{There, Gone | There, Gone, There, Nothing | There},
		{There, Gone | There, Gone, There, Nothing | Hollow},
		{0, 0, 0, 0, 0}, // it is never come to
	}
	for i, s := range w.entry {
		if got := [5]May{s[n], s[p], s[a], s[b], s[o]}; got != want[i] {
			t.Errorf("ahead of block %d: %v, want %v", i, got, want[i])
		}
	}
	if len(w.open) != 0 {
		t.Errorf("still open: %v", w.open)
	}
}

func TestTakeLeast(t *testing.T) {
	w := ways{entry: make([]State, 20), open: map[int]struct{}{7: {}, 3: {}, 19: {}, 0: {}}}
	for _, want := range []int{0, 3, 7, 19} {
		if got := w.takeLeast(); got != want {
			t.Errorf("takeLeast = %d, want %d", got, want)
		}
	}
	if len(w.open) != 0 {
		t.Errorf("still open: %v", w.open)
	}
}

func TestLacks(t *testing.T) {
	s := State{0: There, 2: There | Gone, 4: There, 5: Gone, 6: Nothing | Hollow}
	n, p, a, b, o := prog.Place{Local: 0}, prog.Place{Local: 1}, prog.Place{Local: 2, Part: prog.HalfA}, prog.Place{Local: 2, Part: prog.HalfB}, prog.Place{Local: 3, Part: prog.Content}
	if s.lacks(There) || s.lacks(There, n) || s.lacks(There, n, a) || s.lacks(There|Gone, n, p, a, b) || s.lacks(Nothing|Hollow, o) {
		t.Error("something is lacking that is there")
	}
	if !s.lacks(There, p) || !s.lacks(There, n, a, b) || !s.lacks(There, b, n) || !s.lacks(There|Hollow, o) || !s.lacks(There|Nothing, o) {
		t.Error("nothing is lacking where something may be")
	}
}

// TestFirstFault: the fault of the least line is told, whichever is found first, and nothing is left open.
func TestFirstFault(t *testing.T) {
	lines := "let n int, let p box, block, in n, goto 2, block, load n p, end n, block, load n p, goto 1"
	if at, found := FirstFault(read(t, lines)); !found || at != 6 {
		t.Errorf("FirstFault = %d, %t, want 6", at, found)
	}
	w := followed(t, lines)
	w.firstFault()
	if len(w.open) != 0 {
		t.Errorf("still open: %v", w.open)
	}
	if at, found := FirstFault(read(t, "let n int, block, in n, goto 0")); found || at != 0 {
		t.Errorf("FirstFault = %d, %t, want none", at, found)
	}
}
