package stow_test

import (
	"fmt"
	"math"
	"slices"
	"strings"
	"sync"
	"testing"

	"stow/api"
	"stow/stow"
)

// odd: texts of all kinds, among them such as are no texts.
func odd() []string {
	small := "let n int\nblock\nin n\nend n"
	raw := "let n int\nlet p box\nblock\nin n\nnew p n\nflag 7 1\ntest 7 0 1\nblock\nfree p\nend n"
	texts := []string{
		raw, raw + "\n", raw + strings.Repeat("\nblock\ngoto 0", 1990), raw + strings.Repeat("\nblock\ngoto 0", 2000), "let n int\nblock\nflag " + strings.Repeat("9", 1<<20) + " 1", "let n int\nblock\nflag 1 " + strings.Repeat("1", 1<<20), "let n int\nblock\nfree n" + strings.Repeat(".s", 1<<20),
		"", " ", "\n", "\n\n", "\x00", "\xff\xfe", "é", "\r\n", "let", "block", "end", small, small + "\n", "\n" + small, strings.ReplaceAll(small, "\n", "\r\n"), strings.ReplaceAll(small, " ", "\t"),
		strings.Repeat("let n int\n", 200), strings.Repeat(" ", 1<<20), strings.Repeat("\n", 1<<20), strings.Repeat("a", 1<<20), "let n int\nblock\nset n " + strings.Repeat("9", 1<<20), "let n int\nblock\nout " + strings.Repeat("n ", 1<<20), "let n int\nblock\nout n" + strings.Repeat(".a", 1<<20),
	}
	for _, whole := range []string{small, raw} {
		for i := range whole {
			texts = append(texts, whole[:i], whole[i:], whole[:i]+whole[i+1:], whole[:i]+"\xc3"+whole[i+1:])
		}
	}
	return texts
}

// TestP1EndsAndDoesNotPanic: every call comes back, and an error's place is a line or the end.
func TestP1EndsAndDoesNotPanic(t *testing.T) {
	lists := [][]int64{nil, {}, {math.MinInt64, -1, 0, math.MaxInt64}, make([]int64, 101)}
	numbers := []int{math.MinInt, -1, 0, 1, 50, 51, 1000, 200001, math.MaxInt}
	for i, text := range odd() {
		for _, c := range []struct {
			name string
			look func(string) (api.Errno, int)
			last api.Errno
			run  func(string, []int64, int, int) (api.Result, api.Errno, int)
		}{{"Check and Run", stow.Check, api.ErrUse, stow.Run}, {"Look and Exec", stow.Look, api.ErrType, stow.Exec}} {
			e, at := c.look(text)
			if lines := 1 + strings.Count(text, "\n"); e < api.OK || e > c.last || at < 0 || at > lines {
				t.Errorf("P1: %s: of %.50q the first answers %d, %d", c.name, text, e, at)
			}
			if (e == api.OK || e == api.ErrLong) && at != 0 {
				t.Errorf("P1: %s: of %.50q the first answers %d, %d, want the place 0", c.name, text, e, at)
			}
			for j, fuel := range numbers {
				room, list := numbers[(i+j)%len(numbers)], lists[(i+j)%len(lists)]
				r, runE, runAt := c.run(text, list, fuel, room)
				if e != api.OK && (r != (api.Result{}) || runE != e || runAt != at) {
					t.Errorf("P1: %s: of (%.50q, .., %d, %d) the second answers %+v, %d, %d, the first %d, %d", c.name, text, fuel, room, r, runE, runAt, e, at)
				}
				if e == api.OK && (runAt != 0 || (runE == api.OK) != (r != api.Result{})) {
					t.Errorf("P1: %s: of (%.50q, .., %d, %d) the second answers %+v, %d, %d", c.name, text, fuel, room, r, runE, runAt)
				}
			}
		}
		e, at := stow.Check(text)
		if raw, elaborateE, elaborateAt := stow.Elaborate(text); elaborateE != e || elaborateAt != at || (raw == "") != (e != api.OK) {
			t.Errorf("P1: Elaborate(%.50q) = %.50q, %d, %d, Check answers %d, %d", text, raw, elaborateE, elaborateAt, e, at)
		}
	}
}

// TestP2HangsOnArguments: whatever was asked ahead of it, or is asked beside it, the answer is the same.
func TestP2HangsOnArguments(t *testing.T) {
	var programs, answers []string
	for _, m := range []*maker{newMaker(2), newRawMaker(6)} {
		for range 100 {
			program := strings.Join(m.program(), "\n")
			programs = append(programs, program)
			answers = append(answers, answer(program))
		}
	}
	ask := func(step int) {
		for i := range programs {
			j := i * step % len(programs)
			if a := answer(programs[j]); a != answers[j] {
				t.Errorf("P2: of %q the answers are %s, and %s ahead of that", programs[j], a, answers[j])
			}
		}
	}
	var wait sync.WaitGroup
	for _, step := range []int{1, 7, 101, 199} {
		wait.Go(func() { ask(step) })
	}
	wait.Wait()
}

// answer is all that the calls say of a program.
func answer(program string) string {
	e, at := stow.Check(program)
	r, runE, runAt := stow.Run(program, []int64{3, 2, 1}, 100, 5)
	lookE, lookAt := stow.Look(program)
	rawR, execE, execAt := stow.Exec(program, []int64{3, 2, 1}, 100, 5)
	raw, rawE, rawAt := stow.Elaborate(program)
	return fmt.Sprint(e, at, r, runE, runAt, lookE, lookAt, rawR, execE, execAt, raw, rawE, rawAt)
}

// TestP2ListsStay: neither a list that is handed in is written into, nor what stands behind it.
func TestP2ListsStay(t *testing.T) {
	program := "let n int\nlet m int\nblock\nin n\nin m\nin n\nout m\nend n"
	all := []int64{1, 2, 3, 4, 5}
	was := slices.Clone(all)
	if r, _, _ := stow.Run(program, all[1:2], 100, 5); r.Trace != "o0" || r.Value != 0 {
		t.Errorf("P2: %+v has what stands behind the list", r)
	}
	if r, _, _ := stow.Exec(program, all[1:2], 100, 5); r.Trace != "o0" || r.Value != 0 {
		t.Errorf("P2: %+v has what stands behind the list", r)
	}
	if !slices.Equal(all, was) {
		t.Errorf("P2: the list %v is %v behind the calls", was, all)
	}
}
