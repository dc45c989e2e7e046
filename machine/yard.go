// Package machine: how programs are run.
package machine

import (
	"strconv"
	"strings"

	"stow/api"
)

// yard is where the boxes of a run stand; it keeps the trace of what is done with them, and of what is put out.
type yard struct {
	contents []int64 // that of box 1 is the first
	live     int
	trace    []string
}

// build makes a box with a number in it, and gives the box's number.
func (y *yard) build(content int64) int {
	y.contents = append(y.contents, content)
	y.live++
	box := len(y.contents)
	y.note("+", int64(box))
	return box
}

func (y *yard) free(box int) {
	y.live--
	y.note("-", int64(box))
}

func (y *yard) load(box int) int64 {
	y.note("<", int64(box))
	return y.contents[box-1]
}

func (y *yard) store(box int, content int64) {
	y.note(">", int64(box))
	y.contents[box-1] = content
}

func (y *yard) putOut(number int64) { y.note("o", number) }

func (y *yard) note(sign string, number int64) {
	y.trace = append(y.trace, sign+strconv.FormatInt(number, 10))
}

// result is how a run stands that has come to an end.
func (y *yard) result(outcome api.Outcome, value int64) api.Result {
	return api.Result{Outcome: outcome, Value: value, Trace: strings.Join(y.trace, " "), Live: y.live}
}
