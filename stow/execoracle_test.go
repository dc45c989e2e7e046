package stow_test

import (
	"fmt"
	"math/big"
	"strconv"
	"strings"
	"testing"

	"stow/api"
	"stow/stow"
)

// rawRunner runs a raw program by other means than Exec: by names and words, with one table for all cells, tags and flags.
type rawRunner struct {
	types  map[string]string
	cells  map[string]*big.Int // by the word of a place; a tag by the name of its opt, 0 or 1; a flag by its number
	inside map[string]*big.Int // what is in the live boxes
	inputs []int64
	made   int
	room   int
	trace  []string
}

// stopped is what a line panics with, if the run goes no further.
type stopped api.Outcome

func (r *rawRunner) note(sign string, n any) { r.trace = append(r.trace, fmt.Sprint(sign, n)) }

func (r *rawRunner) take(word string) *big.Int {
	n, full := r.cells[word]
	if !full {
		panic(stopped(api.Broken))
	}
	return n
}

// live is the box that a cell names.
func (r *rawRunner) live(word string) string {
	box := r.take(word).String()
	if r.inside[box] == nil {
		panic(stopped(api.Broken))
	}
	return box
}

func (r *rawRunner) input() *big.Int {
	if len(r.inputs) == 0 {
		return big.NewInt(0)
	}
	n := big.NewInt(r.inputs[0])
	r.inputs = r.inputs[1:]
	return n
}

func (r *rawRunner) build(content *big.Int) *big.Int {
	if len(r.inside) >= r.room {
		panic(stopped(api.Full))
	}
	r.made++
	r.note("+", r.made)
	r.inside[strconv.Itoa(r.made)] = content
	return big.NewInt(int64(r.made))
}

func (r *rawRunner) move(to, from string) {
	switch r.types[from] {
	case "p":
		r.cells[to+".a"] = r.take(from + ".a")
		r.cells[to+".b"] = r.take(from + ".b")
	case "o":
		r.cells[to] = r.take(from)
		if r.cells[to].Sign() > 0 {
			r.cells[to+".s"] = r.take(from + ".s")
		}
	default:
		r.cells[to] = r.take(from)
	}
}

func numberFrom(word string) *big.Int {
	n, _ := new(big.Int).SetString(word, 10)
	return n
}

func (r *rawRunner) statement(w []string) {
	switch w[0] {
	case "set", "flag":
		r.cells[w[1]] = numberFrom(w[2])
	case "add", "sub", "mul", "div":
		b, c := r.take(w[2]), r.take(w[3])
		if w[0] == "div" && c.Sign() == 0 {
			panic(stopped(api.Divided))
		}
		r.cells[w[1]] = bigCalculated(w[0], b, c)
	case "in":
		r.cells[w[1]] = r.input()
	case "out":
		r.note("o", r.take(w[1]))
	case "new":
		r.cells[w[1]] = r.build(r.take(w[2]))
	case "load":
		box := r.live(w[2])
		r.note("<", box)
		r.cells[w[1]] = r.inside[box]
	case "store":
		box, n := r.live(w[1]), r.take(w[2])
		r.note(">", box)
		r.inside[box] = n
	case "free":
		box := r.live(w[1])
		r.note("-", box)
		delete(r.inside, box)
	case "move":
		r.move(w[1], w[2])
	case "none":
		r.cells[w[1]] = big.NewInt(0)
	case "some":
		r.cells[w[1]+".s"] = r.take(w[2])
		r.cells[w[1]] = big.NewInt(1)
	}
}

// way is the word of the block that a terminator leads to.
func (r *rawRunner) way(w []string) string {
	switch w[0] {
	case "goto":
		return w[1]
	case "match":
		if r.take(w[1]).Sign() == 0 {
			return w[2]
		}
		return w[3]
	case "test":
		if n, set := r.cells[w[1]]; !set || n.Sign() == 0 {
			return w[3]
		}
		return w[2]
	}
	if r.take(w[1]).Sign() != 0 {
		return w[2]
	}
	return w[3]
}

// oracleExec is what Exec must answer of a raw program that Look takes.
func oracleExec(raw string, inputs []int64, fuel, room int) (result api.Result) {
	lines := strings.Split(raw, "\n")
	blocks := strings.Split(raw+"\n", "block\n")
	r := &rawRunner{types: oracleLocals(lines), cells: map[string]*big.Int{}, inside: map[string]*big.Int{}, inputs: inputs, room: room}
	defer func() {
		if how, ok := recover().(stopped); ok {
			result.Outcome = api.Outcome(how)
		}
		result.Trace, result.Live = strings.Join(r.trace, " "), len(r.inside)
	}()
	for rest := strings.Split(blocks[1], "\n"); ; rest = rest[1:] {
		if fuel--; fuel < 0 {
			panic(stopped(api.Tired))
		}
		switch w := strings.Split(rest[0], " "); w[0] {
		case "goto", "if", "match", "test":
			b, _ := strconv.Atoi(r.way(w))
			rest = strings.Split("\n"+blocks[b+1], "\n")
		case "end":
			result.Value = r.take(w[1]).Int64()
			panic(stopped(api.Ended))
		default:
			r.statement(w)
		}
	}
}

// TestP7ByChance holds Exec against the other runner.
func TestP7ByChance(t *testing.T) {
	m := newRawMaker(5)
	var count [api.Broken + 1]int
	for range 10000 {
		raw := strings.Join(m.program(), "\n")
		if e, at := stow.Look(raw); e != api.OK {
			t.Fatalf("P6: Look(%q) = %d, %d, want OK", raw, e, at)
		}
		for range 3 {
			inputs, fuel, room := m.numbers(), m.upTo(300), m.upTo(api.MaxRoom)
			r, e, at := stow.Exec(raw, inputs, fuel, room)
			if want := oracleExec(raw, inputs, fuel, room); r != want || e != api.OK || at != 0 {
				t.Fatalf("P7: Exec(%q, %v, %d, %d) = %+v, %d, %d, want %+v", raw, inputs, fuel, room, r, e, at, want)
			}
			if odd := oddUse(r); odd != "" {
				t.Fatalf("P7: Exec(%q, %v, %d, %d) = %+v: %s", raw, inputs, fuel, room, r, odd)
			}
			count[r.Outcome]++
		}
	}
	for o := api.Ended; o <= api.Broken; o++ {
		if count[o] < 300 {
			t.Errorf("only %d runs with the outcome %d: chance tells too little", count[o], o)
		}
	}
}
