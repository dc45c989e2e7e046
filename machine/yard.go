// Package machine: how programs are run.
package machine

import (
	"strconv"
	"strings"

	"stow/api"
)

// box is what is kept of a box that was made.
type box struct {
	content int64
	live    bool
}

// yard is where the boxes of a run stand; it keeps the trace of what is done with them, and of what is put out.
type yard struct {
	made  []box // box 1 is the first
	live  int
	trace []string
}

// build makes a box with a number in it, and gives the box's number.
func (y *yard) build(content int64) int {
	y.made = append(y.made, box{content, true})
	y.live++
	number := len(y.made)
	y.note("+", int64(number))
	return number
}

// isLive tells whether a box that was made is not freed yet.
func (y *yard) isLive(number int) bool { return y.made[number-1].live }

func (y *yard) free(number int) {
	y.made[number-1].live = false
	y.live--
	y.note("-", int64(number))
}

func (y *yard) load(number int) int64 {
	y.note("<", int64(number))
	return y.made[number-1].content
}

func (y *yard) store(number int, content int64) {
	y.note(">", int64(number))
	y.made[number-1].content = content
}

func (y *yard) putOut(number int64) { y.note("o", number) }

func (y *yard) note(sign string, number int64) {
	y.trace = append(y.trace, sign+strconv.FormatInt(number, 10))
}

// result is how a run stands that has come to an end.
func (y *yard) result(outcome api.Outcome, value int64) api.Result {
	return api.Result{Outcome: outcome, Value: value, Trace: strings.Join(y.trace, " "), Live: y.live}
}
