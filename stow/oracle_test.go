package stow_test

import (
	"regexp"
	"slices"
	"strconv"
	"strings"

	"stow/api"
)

// The oracle answers what Check must, and Look, by other means: forms by expressions, types by a list of what may be, and uses by going every way with one state a way.

const (
	nameForm   = `[a-z]{1,4}`
	placeForm  = nameForm + `(\.[abs])?`
	numberForm = `(0|-?[1-9][0-9]{0,9})`
	blockForm  = `(0|[1-9][0-9]{0,9})`
	flagForm   = `([0-9]|[1-4][0-9])`
)

// formOf makes an expression of one in which N, P, #, B and F stand for the words of a line.
func formOf(words string) *regexp.Regexp {
	fill := strings.NewReplacer("N", nameForm, "P", placeForm, "#", numberForm, "B", blockForm, "F", flagForm)
	return regexp.MustCompile(`\A(` + fill.Replace(words) + `)\z`)
}

// grammar is how programs, or raw programs, must be.
type grammar struct {
	lines, blocks  int // at most
	statement, end *regexp.Regexp
}

var (
	letForm    = formOf(`let N (int|box|pair|opt)`)
	ownGrammar = grammar{120, 20, formOf(bothStatements + `|drop P`), formOf(bothEnds)}
	rawGrammar = grammar{4000, 2000, formOf(bothStatements + `|free P|flag F [01]`), formOf(bothEnds + `|test F B B`)}
	typesForm  = regexp.MustCompile(`\A(set i|(add|sub|mul|div) i i i|(in|out|if|end) i|new b i|load i b|store b i|move (b b|p p|o o)|(none|match) o|some o b|drop [bpo]|free b|flag|test|goto)\z`)
)

const (
	bothStatements = `set N #|(add|sub|mul|div) N N N|(in|out|none) N|new P N|load N P|store P N|move P P|some N P`
	bothEnds       = `goto B|(if|match) N B B|end N`
)

// oracle is what Check must answer.
func oracle(program string) (api.Errno, int) {
	lines := strings.Split(program, "\n")
	if e, at := ownGrammar.oracle(lines); e != api.OK {
		return e, at
	}
	if at := oracleUse(lines); at >= 0 {
		return api.ErrUse, at
	}
	return api.OK, 0
}

// oracleRaw is what Look must answer.
func oracleRaw(raw string) (api.Errno, int) { return rawGrammar.oracle(strings.Split(raw, "\n")) }

func (g grammar) oracle(lines []string) (api.Errno, int) {
	if len(lines) > g.lines {
		return api.ErrLong, 0
	}
	if at := g.oracleForm(lines); at >= 0 {
		return api.ErrForm, at
	}
	if at := oracleName(lines); at >= 0 {
		return api.ErrName, at
	}
	if at := oracleType(lines); at >= 0 {
		return api.ErrType, at
	}
	return api.OK, 0
}

// letter is what a line is: L, B, S or T, or ? if it is none.
func (g grammar) letter(line string) string {
	for _, word := range strings.Split(line, " ") {
		if n, err := strconv.Atoi(word); err == nil && (n > api.MaxNumber || n < -api.MaxNumber) {
			return "?"
		}
	}
	switch {
	case letForm.MatchString(line):
		return "L"
	case line == "block":
		return "B"
	case g.statement.MatchString(line):
		return "S"
	case g.end.MatchString(line):
		return "T"
	}
	return "?"
}

var (
	wholeForm = regexp.MustCompile(`\AL{1,12}(BS*T)+\z`)
	beginForm = regexp.MustCompile(`\A(L{0,12}|L{1,12}(BS*T)*BS*T?)\z`)
)

func (g grammar) oracleForm(lines []string) int {
	letters := ""
	for i, line := range lines {
		letters += g.letter(line)
		if !beginForm.MatchString(letters) || strings.Count(letters, "B") > g.blocks {
			return i
		}
	}
	if !wholeForm.MatchString(letters) {
		return len(lines)
	}
	return -1
}

// parted gives the first word, and of the others those that begin with a letter, and those that are numbers.
func parted(line string) (op string, places, numbers []string) {
	words := strings.Split(line, " ")
	for _, word := range words[1:] {
		if word[0] >= 'a' {
			places = append(places, word)
		} else {
			numbers = append(numbers, word)
		}
	}
	return words[0], places, numbers
}

func oracleName(lines []string) int {
	seen := " "
	blocks := 0
	for _, line := range lines {
		if line == "block" {
			blocks++
		}
	}
	for i, line := range lines {
		op, places, numbers := parted(line)
		if op == "let" {
			if strings.Contains(seen, " "+places[0]+" ") {
				return i
			}
			seen += places[0] + " "
			continue
		}
		for _, p := range places {
			name, _, _ := strings.Cut(p, ".")
			if !strings.Contains(seen, " "+name+" ") {
				return i
			}
		}
		switch op {
		case "set", "flag":
			numbers = nil
		case "test":
			numbers = numbers[1:]
		}
		for _, n := range numbers {
			if v, _ := strconv.Atoi(n); v >= blocks {
				return i
			}
		}
	}
	return -1
}

// oracleLocals: each local's type, by its first letter.
func oracleLocals(lines []string) map[string]string {
	types := map[string]string{}
	for _, line := range lines {
		if op, words, _ := parted(line); op == "let" {
			types[words[0]] = words[1][:1]
		}
	}
	return types
}

func oracleType(lines []string) int {
	types := oracleLocals(lines)
	for i, line := range lines {
		op, places, _ := parted(line)
		if op == "let" || op == "block" {
			continue
		}
		for _, p := range places {
			name, part, _ := strings.Cut(p, ".")
			op += " " + map[string]string{"i": "i", "b": "b", "p": "p", "o": "o", "pa": "b", "pb": "b", "os": "b"}[types[name]+part]
		}
		if !typesForm.MatchString(op) {
			return i
		}
	}
	return -1
}

// moment is a line that is come to with one state: by place, "there" and the like; what has no entry is not there, or away.
type moment struct {
	at    int
	state map[string]string
}

func (m moment) key() string {
	var all []string
	for place, how := range m.state {
		all = append(all, place+"="+how)
	}
	slices.Sort(all)
	return strconv.Itoa(m.at) + " " + strings.Join(all, " ")
}

func (m moment) to(at int) moment {
	n := moment{at, map[string]string{}}
	for place, how := range m.state {
		n.state[place] = how
	}
	return n
}

func oracleUse(lines []string) int {
	types := oracleLocals(lines)
	var begins []int
	for i, line := range lines {
		if line == "block" {
			begins = append(begins, i+1)
		}
	}
	first := -1
	seen := map[string]bool{}
	work := []moment{{begins[0], map[string]string{}}}
	for len(work) > 0 {
		m := work[len(work)-1]
		work = work[:len(work)-1]
		if seen[m.key()] {
			continue
		}
		seen[m.key()] = true
		if !oracleHas(lines[m.at], types, m.state) && (first < 0 || m.at < first) {
			first = m.at
		}
		work = append(work, oracleNext(lines[m.at], types, m, begins)...)
	}
	return first
}

// how is how a place is: of a content how its opt is.
func how(state map[string]string, place string) string {
	return state[strings.TrimSuffix(place, ".s")]
}

func oracleHas(line string, types, state map[string]string) bool {
	op, w, _ := parted(line)
	there := func(place string) bool { return how(state, place) == "there" }
	open := func(place string) bool {
		return !strings.HasSuffix(place, ".s") || there(place) || how(state, place) == "hollow"
	}
	switch op {
	case "add", "sub", "mul", "div":
		return there(w[1]) && there(w[2])
	case "out", "if", "end":
		return there(w[0])
	case "new":
		return there(w[1]) && open(w[0])
	case "load", "some":
		return there(w[1])
	case "store":
		return there(w[0]) && there(w[1])
	case "match":
		return there(w[0]) || how(state, w[0]) == "nothing"
	case "drop":
		return open(w[0])
	case "move":
		switch types[w[1]] {
		case "p":
			return there(w[1]+".a") && there(w[1]+".b")
		case "o":
			return there(w[1]) || how(state, w[1]) == "nothing"
		}
		return there(w[1]) && open(w[0])
	}
	return true
}

func oracleNext(line string, types map[string]string, m moment, begins []int) []moment {
	op, w, numbers := parted(line)
	n := m.to(m.at + 1)
	take := func(place string) {
		if opt, content := strings.CutSuffix(place, ".s"); content {
			n.state[opt] = "hollow"
			return
		}
		delete(n.state, place)
		delete(n.state, place+".a")
		delete(n.state, place+".b")
	}
	put := func(place, how string) {
		n.state[strings.TrimSuffix(place, ".s")] = how
	}
	switch op {
	case "set", "add", "sub", "mul", "div", "in", "load", "new":
		put(w[0], "there")
	case "none":
		put(w[0], "nothing")
	case "some":
		take(w[1])
		put(w[0], "there")
	case "drop":
		take(w[0])
	case "move":
		was, known := m.state[w[1]]
		take(w[1])
		switch {
		case types[w[1]] == "p":
			put(w[0]+".a", "there")
			put(w[0]+".b", "there")
		case types[w[1]] == "o" && !known:
			take(w[0])
		case types[w[1]] == "o":
			put(w[0], was)
		default:
			put(w[0], "there")
		}
	case "goto", "if", "match", "end":
		var all []moment
		for i, number := range numbers {
			b, _ := strconv.Atoi(number)
			if op == "match" {
				put(w[0], []string{"nothing", "there"}[i])
			}
			all = append(all, n.to(begins[b]))
		}
		return all
	}
	return []moment{n}
}
