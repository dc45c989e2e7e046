package stow_test

import (
	"fmt"
	"math/big"
	"strconv"
	"strings"
	"testing"

	"stow/api"
	"stow/stow"
)

// runner runs a program by other means than Run: by names and words, with all that the document says of an opt, and numbers of any size.
type runner struct {
	types  map[string]string
	order  []string // the locals
	ints   map[string]*big.Int
	boxes  map[string]int    // by place; a content by the name of its opt
	opts   map[string]string // nothing, whole or hollow; what has no entry is away
	inside map[int]*big.Int  // what is in the live boxes
	made   int
	trace  []string
}

func newRunner(lines []string) *runner {
	r := &runner{types: oracleLocals(lines), ints: map[string]*big.Int{}, boxes: map[string]int{}, opts: map[string]string{}, inside: map[int]*big.Int{}}
	for _, line := range lines {
		if op, words, _ := parted(line); op == "let" {
			r.order = append(r.order, words[0])
		}
	}
	return r
}

// wrapped is a number as it comes in again at the other end.
func wrapped(n *big.Int) *big.Int {
	size := new(big.Int).Lsh(big.NewInt(1), 64)
	half := new(big.Int).Lsh(big.NewInt(1), 63)
	n = new(big.Int).Add(n, half)
	n.Mod(n, size)
	return n.Sub(n, half)
}

func (r *runner) note(sign string, n any) { r.trace = append(r.trace, fmt.Sprint(sign, n)) }

// take empties a place, and gives its box, or 0.
func (r *runner) take(place string) int {
	opt, content := strings.CutSuffix(place, ".s")
	box := r.boxes[opt]
	delete(r.boxes, opt)
	if content {
		r.opts[opt] = "hollow"
	}
	return box
}

func (r *runner) free(box int) {
	if box != 0 {
		r.note("-", box)
		delete(r.inside, box)
	}
}

// put frees what is in a place, and lays a box there.
func (r *runner) put(place string, box int) {
	opt, content := strings.CutSuffix(place, ".s")
	r.free(r.take(place))
	r.boxes[opt] = box
	if content {
		r.opts[opt] = "whole"
	}
}

func (r *runner) drop(place string) {
	switch r.types[place] {
	case "p":
		r.free(r.take(place + ".a"))
		r.free(r.take(place + ".b"))
	case "o":
		if r.opts[place] == "whole" {
			r.free(r.take(place))
		}
		delete(r.opts, place)
	default:
		r.free(r.take(place))
	}
}

func (r *runner) move(to, from string) {
	switch r.types[from] {
	case "p":
		a, b := r.take(from+".a"), r.take(from+".b")
		r.put(to+".a", 0)
		r.put(to+".b", 0)
		r.boxes[to+".a"], r.boxes[to+".b"] = a, b
	case "o":
		how, box := r.opts[from], r.take(from)
		delete(r.opts, from)
		r.drop(to)
		r.opts[to] = how
		if how == "whole" {
			r.boxes[to] = box
		}
	default:
		r.put(to, r.take(from))
	}
}

// bigCalculated is b and c, put together as op says.
func bigCalculated(op string, b, c *big.Int) *big.Int {
	n := new(big.Int)
	switch op {
	case "add":
		n.Add(b, c)
	case "sub":
		n.Sub(b, c)
	case "mul":
		n.Mul(b, c)
	case "div":
		n.Quo(b, c)
	}
	return wrapped(n)
}

// statement does a line that always goes on.
func (r *runner) statement(op string, w []string, number string) {
	switch op {
	case "set":
		n, _ := strconv.ParseInt(number, 10, 64)
		r.ints[w[0]] = big.NewInt(n)
	case "add", "sub", "mul", "div":
		r.ints[w[0]] = bigCalculated(op, r.ints[w[1]], r.ints[w[2]])
	case "out":
		r.note("o", r.ints[w[0]])
	case "load":
		box := r.boxes[strings.TrimSuffix(w[1], ".s")]
		r.note("<", box)
		r.ints[w[0]] = r.inside[box]
	case "store":
		box := r.boxes[strings.TrimSuffix(w[0], ".s")]
		r.note(">", box)
		r.inside[box] = r.ints[w[1]]
	case "move":
		r.move(w[0], w[1])
	case "none":
		r.drop(w[0])
		r.opts[w[0]] = "nothing"
	case "some":
		box := r.take(w[1])
		r.drop(w[0])
		r.opts[w[0]], r.boxes[w[0]] = "whole", box
	case "drop":
		r.drop(w[0])
	}
}

func (r *runner) result(outcome api.Outcome) api.Result {
	return api.Result{Outcome: outcome, Trace: strings.Join(r.trace, " "), Live: len(r.inside)}
}

// oracleRun is what Run must answer of a program that Check takes.
func oracleRun(program string, inputs []int64, fuel, room int) api.Result {
	lines := strings.Split(program, "\n")
	var begins []int
	for i, line := range lines {
		if line == "block" {
			begins = append(begins, i+1)
		}
	}
	r := newRunner(lines)
	for at, read := begins[0], 0; ; at++ {
		if fuel--; fuel < 0 {
			return r.result(api.Tired)
		}
		op, w, numbers := parted(lines[at])
		number := ""
		if len(numbers) > 0 {
			number = numbers[0]
		}
		switch op {
		case "in":
			r.ints[w[0]] = new(big.Int)
			if read < len(inputs) {
				r.ints[w[0]].SetInt64(inputs[read])
			}
			read++
		case "div":
			if r.ints[w[2]].Sign() == 0 {
				return r.result(api.Divided)
			}
			r.statement(op, w, "")
		case "new":
			r.free(r.take(w[0]))
			if len(r.inside) == room {
				return r.result(api.Full)
			}
			r.made++
			r.note("+", r.made)
			r.inside[r.made] = r.ints[w[1]]
			r.put(w[0], r.made)
		case "if", "match":
			if op == "if" && r.ints[w[0]].Sign() == 0 || op == "match" && r.opts[w[0]] == "whole" {
				number = numbers[1]
			}
			fallthrough
		case "goto":
			b, _ := strconv.Atoi(number)
			at = begins[b] - 1
		case "end":
			for i := len(r.order) - 1; i >= 0; i-- {
				r.drop(r.order[i])
			}
			result := r.result(api.Ended)
			result.Value = r.ints[w[0]].Int64()
			return result
		default:
			r.statement(op, w, number)
		}
	}
}

// oddTrace tells what of a program's result cannot be.
func oddTrace(r api.Result) string {
	if r.Outcome == api.Ended && r.Live > 0 {
		return "a box is left"
	}
	return oddUse(r)
}

// oddUse tells what of a trace cannot be: each box is made once, in turn, and used and freed only while it is live.
func oddUse(r api.Result) string {
	made := 0
	live := map[int]bool{}
	for _, word := range strings.Fields(r.Trace) {
		n, err := strconv.Atoi(word[1:])
		switch {
		case err != nil:
			return word + " is no word"
		case word[0] == 'o':
		case word[0] == '+':
			made++
			if n != made {
				return word + " is out of turn"
			}
			live[n] = true
		case !live[n]:
			return word + " of a box that is not live"
		case word[0] == '-':
			delete(live, n)
		case word[0] != '<' && word[0] != '>':
			return word + " is no word"
		}
	}
	if r.Live != len(live) {
		return fmt.Sprint(len(live), " boxes are live by the trace, and ", r.Live, " by the result")
	}
	return ""
}

func TestOddTrace(t *testing.T) {
	for trace, live := range map[string]int{"-1": 0, "<1": 0, ">1": 0, "+2": 1, "+1 +1": 1, "+1 -1 -1": 0, "+1 -1 <1": 0, "+1 -1 >1": 0, "+1 -2": 1, "+1 +3": 2, "x1": 0, "+1 x1": 1, "+": 1, "+1": 0, "+1 -1": 1} {
		if oddTrace(api.Result{Outcome: api.Tired, Trace: trace, Live: live}) == "" {
			t.Errorf("nothing is said of %q, %d", trace, live)
		}
	}
	if oddTrace(api.Result{Outcome: api.Ended, Trace: "+1", Live: 1}) == "" {
		t.Error("nothing is said of a box that is left")
	}
	if odd := oddTrace(api.Result{Outcome: api.Ended, Trace: "+1 o-7 >1 +2 <1 -1 -2"}); odd != "" {
		t.Error(odd)
	}
}

// TestP4P5ByChance holds Run against the other runner, and its traces against P5.
func TestP4P5ByChance(t *testing.T) {
	m := newMaker(3)
	var count [api.Broken + 1]int
	for range 10000 {
		program := strings.Join(m.program(), "\n")
		if e, _ := stow.Check(program); e != api.OK {
			continue
		}
		for range 4 {
			inputs, fuel, room := m.numbers(), m.upTo(api.MaxFuel), m.upTo(api.MaxRoom)
			r, e, at := stow.Run(program, inputs, fuel, room)
			if want := oracleRun(program, inputs, fuel, room); r != want || e != api.OK || at != 0 {
				t.Fatalf("P4: Run(%q, %v, %d, %d) = %+v, %d, %d, want %+v", program, inputs, fuel, room, r, e, at, want)
			}
			if odd := oddTrace(r); odd != "" {
				t.Fatalf("P5: Run(%q, %v, %d, %d) = %+v: %s", program, inputs, fuel, room, r, odd)
			}
			count[r.Outcome]++
		}
	}
	for _, o := range []api.Outcome{api.Ended, api.Tired, api.Full, api.Divided} {
		if count[o] < 300 {
			t.Errorf("only %d runs with the outcome %d: chance tells too little", count[o], o)
		}
	}
}
