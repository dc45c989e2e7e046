package machine

import (
	"math"
	"slices"
	"strings"
	"testing"

	"stow/api"
	"stow/prog"
)

func TestYard(t *testing.T) {
	var y yard
	if one, two := y.build(7), y.build(8); one != 1 || two != 2 {
		t.Errorf("the first boxes are %d and %d", one, two)
	}
	y.store(1, 9)
	if one, two := y.load(1), y.load(2); one != 9 || two != 8 {
		t.Errorf("in the boxes are %d and %d, want 9 and 8", one, two)
	}
	y.free(1)
	if three := y.build(0); three != 3 {
		t.Errorf("the third box is %d, though the number of a freed one is not given again", three)
	}
	y.putOut(math.MinInt64)
	want := api.Result{Outcome: api.Ended, Value: 4, Trace: "+1 +2 >1 <1 <2 -1 +3 o-9223372036854775808", Live: 2}
	if r := y.result(api.Ended, 4); r != want {
		t.Errorf("result = %+v, want %+v", r, want)
	}
	if r := new(yard).result(api.Tired, 0); r != (api.Result{Outcome: api.Tired}) {
		t.Errorf("result of nothing = %+v", r)
	}
}

func TestCalculated(t *testing.T) {
	for _, c := range []struct {
		op              prog.Op
		one, two, value int64
	}{{prog.Add, 7, 2, 9}, {prog.Sub, 7, 2, 5}, {prog.Mul, 7, 2, 14}, {prog.Div, 7, 2, 3}, {prog.Div, -7, 2, -3}, {prog.Div, math.MinInt64, -1, math.MinInt64}, {prog.Add, math.MaxInt64, 1, math.MinInt64}} {
		if got := calculated(c.op, c.one, c.two); got != c.value {
			t.Errorf("calculated(%d, %d, %d) = %d, want %d", c.op, c.one, c.two, got, c.value)
		}
	}
}

// TestTakeAndDrop: what is taken is given in order and not freed, what is dropped is freed in order, and both are gone.
func TestTakeAndDrop(t *testing.T) {
	p, e, at := prog.Read(strings.ReplaceAll("let n int, let x pair, let o opt, block, end n", ", ", "\n"))
	if e != api.OK {
		t.Fatalf("Read = %d, %d", e, at)
	}
	m := owner{program: p}
	a, b, o, s := prog.Place{Local: 1, Part: prog.HalfA}, prog.Place{Local: 1, Part: prog.HalfB}, prog.Place{Local: 2}, prog.Place{Local: 2, Part: prog.Content}
	fill := func() {
		for _, place := range []prog.Place{a, b, o} {
			m.boxes[place.Slot()] = m.build(0)
		}
	}
	fill()
	if got := m.take(b, a, s, a); !slices.Equal(got, []int{2, 1, 3, noBox}) {
		t.Errorf("take = %v", got)
	}
	m.drop(a, b, o)
	fill()
	m.drop(b, a, o, s)
	if trace := m.result(0, 0).Trace; trace != "+1 +2 +3 +4 +5 +6 -5 -4 -6" {
		t.Errorf("trace = %s", trace)
	}
}
