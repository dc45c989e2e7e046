package machine

import (
	"math"
	"slices"
	"strings"
	"testing"

	"stow/api"
	"stow/prog"
)

func TestYard(t *testing.T) {
	var y yard
	if one, two := y.build(7), y.build(8); one != 1 || two != 2 {
		t.Errorf("the first boxes are %d and %d", one, two)
	}
	y.store(1, 9)
	if one, two := y.load(1), y.load(2); one != 9 || two != 8 {
		t.Errorf("in the boxes are %d and %d, want 9 and 8", one, two)
	}
	y.free(1)
	if y.isLive(1) || !y.isLive(2) {
		t.Errorf("box 1 is live: %t, box 2: %t", y.isLive(1), y.isLive(2))
	}
	if three := y.build(0); three != 3 {
		t.Errorf("the third box is %d, though the number of a freed one is not given again", three)
	}
	y.putOut(math.MinInt64)
	want := api.Result{Outcome: api.Ended, Value: 4, Trace: "+1 +2 >1 <1 <2 -1 +3 o-9223372036854775808", Live: 2}
	if r := y.result(api.Ended, 4); r != want {
		t.Errorf("result = %+v, want %+v", r, want)
	}
	if r := new(yard).result(api.Tired, 0); r != (api.Result{Outcome: api.Tired}) {
		t.Errorf("result of nothing = %+v", r)
	}
}

// TestFeed: behind the last input all are 0, and the list stays as it was.
func TestFeed(t *testing.T) {
	list := []int64{4, 7}
	f := feed(list)
	for i, want := range []int64{4, 7, 0, 0} {
		if got := f.take(); got != want {
			t.Errorf("input %d is %d, want %d", i, got, want)
		}
	}
	if !slices.Equal(list, []int64{4, 7}) {
		t.Errorf("the list is %v", list)
	}
}

func TestCalculated(t *testing.T) {
	for _, c := range []struct {
		op              prog.Op
		one, two, value int64
	}{{prog.Add, 7, 2, 9}, {prog.Sub, 7, 2, 5}, {prog.Mul, 7, 2, 14}, {prog.Div, 7, 2, 3}, {prog.Div, -7, 2, -3}, {prog.Div, math.MinInt64, -1, math.MinInt64}, {prog.Add, math.MaxInt64, 1, math.MinInt64}} {
		if got := calculated(c.op, c.one, c.two); got != c.value {
			t.Errorf("calculated(%d, %d, %d) = %d, want %d", c.op, c.one, c.two, got, c.value)
		}
	}
}

// TestTakeAndDrop: what is taken is given in order and not freed, what is dropped is freed in order, and both are gone.
func TestTakeAndDrop(t *testing.T) {
	p, e, at := prog.Read(strings.ReplaceAll("let n int, let x pair, let o opt, block, end n", ", ", "\n"))
	if e != api.OK {
		t.Fatalf("Read = %d, %d", e, at)
	}
	m := owner{program: p}
	a, b, o, s := prog.Place{Local: 1, Part: prog.HalfA}, prog.Place{Local: 1, Part: prog.HalfB}, prog.Place{Local: 2}, prog.Place{Local: 2, Part: prog.Content}
	fill := func() {
		for _, place := range []prog.Place{a, b, o} {
			m.boxes[place.Slot()] = m.build(0)
		}
	}
	fill()
	if got := m.take(b, a, s, a); !slices.Equal(got, []int{2, 1, 3, noBox}) {
		t.Errorf("take = %v", got)
	}
	m.drop(a, b, o)
	fill()
	m.drop(b, a, o, s)
	if trace := m.result(0, 0).Trace; trace != "+1 +2 +3 +4 +5 +6 -5 -4 -6" {
		t.Errorf("trace = %s", trace)
	}
}

// newBare makes a bare machine with an int, two pairs and two opts.
func newBare(t *testing.T) *bare {
	t.Helper()
	p, e, at := prog.ReadRaw(strings.ReplaceAll("let n int, let x pair, let y pair, let o opt, let l opt, block, end n", ", ", "\n"))
	if e != api.OK {
		t.Fatalf("ReadRaw = %d, %d", e, at)
	}
	return &bare{program: p}
}

// TestCells: each place has a cell of its own, and each opt a tag.
func TestCells(t *testing.T) {
	m := newBare(t)
	var places []prog.Place
	for local, parts := range [][]prog.Part{{prog.Self}, {prog.HalfA, prog.HalfB}, {prog.HalfA, prog.HalfB}, {prog.Self, prog.Content}, {prog.Self, prog.Content}} {
		for _, part := range parts {
			places = append(places, prog.Place{Local: local, Part: part})
		}
	}
	for i, place := range places {
		if !m.empty(place) || i > 0 && m.empty(places[:i]...) || !m.empty(places[:i+1]...) || !m.dead(place) {
			t.Errorf("ahead of its writing: %v", place)
		}
		m.write(place, int64(i))
	}
	for i, place := range places {
		if m.empty(place) || m.value(place) != int64(i) {
			t.Errorf("%v has %d, want %d", place, m.value(place), i)
		}
	}
	if m.empty() {
		t.Error("of no places one is empty")
	}
}

// TestCopies: a move copies both halves, or a tag, and with a tag that says some the content.
func TestCopies(t *testing.T) {
	m := newBare(t)
	x, y, o, l := prog.Place{Local: 1}, prog.Place{Local: 2}, prog.Place{Local: 3}, prog.Place{Local: 4}
	m.write(prog.Place{Local: 1, Part: prog.HalfA}, 7)
	m.write(prog.Place{Local: 1, Part: prog.HalfB}, 8)
	m.move(y, x)
	for _, pair := range []prog.Place{x, y} {
		if a, b := m.value(m.program.Halves(pair)[0]), m.value(m.program.Halves(pair)[1]); a != 7 || b != 8 {
			t.Errorf("pair %d has %d and %d, want 7 and 8", pair.Local, a, b)
		}
	}
	m.write(contentOf(o), 9)
	m.write(o, nothing)
	m.move(l, o)
	if m.empty(l) || m.value(l) != nothing || !m.empty(contentOf(l)) {
		t.Errorf("behind a move of nothing: tag %+v, content %+v", *m.cell(l), *m.cell(contentOf(l)))
	}
	m.write(o, some)
	m.move(l, o)
	if m.value(l) != some || m.empty(contentOf(l)) || m.value(contentOf(l)) != 9 || m.value(contentOf(o)) != 9 {
		t.Errorf("behind a move of some: tag %+v, content %+v", *m.cell(l), *m.cell(contentOf(l)))
	}
}
