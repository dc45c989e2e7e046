package prog

import (
	"strconv"
	"strings"

	"stow/api"
)

// A want is what a word of a line must be.
const (
	wantNewName = 'd' // a name that is declared
	wantType    = 't'
	wantInt     = 'i' // a local of the type int
	wantOpt     = 'o' // a local of the type opt
	wantPlace   = 'p' // a place for a box
	wantThing   = 'm' // what can be moved or dropped
	wantNumber  = '#'
	wantBlock   = 'b' // the number of a block
	wantFlag    = 'f' // the number of a flag
	wantValue   = 'v' // the value of a flag
)

// mostWords is how many words the longest line has.
const mostWords = 4

// shapes: for each op its word, and what is wanted of the words behind it.
var shapes = [...]struct{ word, wants string }{
	Let:   {"let", "dt"},
	Begin: {"block", ""},
	Set:   {"set", "i#"},
	Add:   {"add", "iii"},
	Sub:   {"sub", "iii"},
	Mul:   {"mul", "iii"},
	Div:   {"div", "iii"},
	In:    {"in", "i"},
	Out:   {"out", "i"},
	New:   {"new", "pi"},
	Load:  {"load", "ip"},
	Store: {"store", "pi"},
	Move:  {"move", "mm"},
	None:  {"none", "o"},
	Some:  {"some", "op"},
	Drop:  {"drop", "m"},
	Free:  {"free", "p"},
	Flag:  {"flag", "fv"},
	Goto:  {"goto", "b"},
	If:    {"if", "ibb"},
	Match: {"match", "obb"},
	Test:  {"test", "fbb"},
	End:   {"end", "i"},
}

// typeWords: for each type its word.
var typeWords = [...]string{Int: "int", Box: "box", Pair: "pair", Opt: "opt"}

// opOf finds the op of a word.
func opOf(word string) (Op, bool) {
	for op, shape := range shapes {
		if shape.word == word {
			return Op(op), true
		}
	}
	return 0, false
}

// typeOf finds the type of a word.
func typeOf(word string) (Type, bool) {
	for t, w := range typeWords {
		if w == word {
			return Type(t), true
		}
	}
	return 0, false
}

// isFormed tells whether a word has the form that is wanted, whatever there is of that name.
func isFormed(word string, want byte) bool {
	ok := false
	switch want {
	case wantNewName, wantInt, wantOpt:
		ok = isName(word)
	case wantType:
		_, ok = typeOf(word)
	case wantPlace, wantThing:
		name, _, fits := splitPlace(word)
		ok = fits && isName(name)
	case wantNumber:
		_, ok = numberOf(word)
	case wantBlock:
		_, ok = blockOf(word)
	case wantFlag:
		_, ok = flagOf(word)
	case wantValue:
		ok = word == "0" || word == "1"
	}
	return ok
}

func isName(word string) bool {
	if len(word) < 1 || len(word) > api.MaxName {
		return false
	}
	for i := range len(word) {
		if word[i] < 'a' || word[i] > 'z' {
			return false
		}
	}
	return true
}

// splitPlace parts a word into a local's name and what of the local is meant.
func splitPlace(word string) (name string, part Part, ok bool) {
	name, suffix, dotted := strings.Cut(word, ".")
	if !dotted {
		return name, Self, true
	}
	switch suffix {
	case "a":
		return name, HalfA, true
	case "b":
		return name, HalfB, true
	case "s":
		return name, Content, true
	}
	return "", Self, false
}

// numberOf reads a number with or without a sign.
func numberOf(word string) (int64, bool) {
	digits, negative := strings.CutPrefix(word, "-")
	n, ok := digitsOf(digits)
	if !negative {
		return n, ok
	}
	return -n, ok && n != 0
}

// blockOf reads the number of a block.
func blockOf(word string) (int, bool) {
	n, ok := digitsOf(word)
	return int(n), ok
}

// flagOf reads the number of a flag.
func flagOf(word string) (int, bool) {
	n, ok := digitsOf(word)
	return int(n), ok && n < api.MaxFlags
}

// digitsOf reads a number without a sign. ParseInt alone takes more than may be: signs, and zeros ahead.
func digitsOf(word string) (int64, bool) {
	if word == "" || word[0] < '0' || word[0] > '9' || (word[0] == '0' && word != "0") {
		return 0, false
	}
	n, err := strconv.ParseInt(word, 10, 64)
	if err != nil || n > api.MaxNumber {
		return 0, false
	}
	return n, true
}
