package prog

import (
	"strconv"
	"strings"
)

// suffixes: for each part what is written behind the name of its local.
var suffixes = [...]string{Self: "", HalfA: ".a", HalfB: ".b", Content: ".s"}

// Text is the text that a program, raw or not, is read from.
func (p *Program) Text() string {
	var lines []string
	for _, local := range p.Locals {
		lines = append(lines, shapes[Let].word+" "+local.Name+" "+typeWords[local.Type])
	}
	for _, block := range p.Blocks {
		lines = append(lines, shapes[Begin].word)
		for _, line := range block {
			lines = append(lines, p.textOf(line))
		}
	}
	return strings.Join(lines, "\n")
}

// textOf writes a statement or terminator, word by word as lineOf looks them up.
func (p *Program) textOf(line Line) string {
	words := []string{shapes[line.Op].word}
	places, next := line.Places, line.Next
	for _, want := range []byte(shapes[line.Op].wants) {
		switch want {
		case wantNumber, wantValue:
			words = append(words, strconv.FormatInt(line.Number, 10))
		case wantFlag:
			words = append(words, strconv.Itoa(line.Flag))
		case wantBlock:
			words = append(words, strconv.Itoa(next[0]))
			next = next[1:]
		default:
			words = append(words, p.Locals[places[0].Local].Name+suffixes[places[0].Part])
			places = places[1:]
		}
	}
	return strings.Join(words, " ")
}
