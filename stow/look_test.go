package stow_test

import (
	"strconv"
	"strings"
	"testing"

	"stow/api"
	"stow/stow"
)

// wantsRaw fails, if Look answers otherwise.
func wantsRaw(t *testing.T, promise, lines string, e api.Errno, at int) {
	t.Helper()
	if gotE, gotAt := stow.Look(text(lines)); gotE != e || gotAt != at {
		t.Errorf("%s: Look(%.200q) = %d, %d, want %d, %d", promise, lines, gotE, gotAt, e, at)
	}
}

// TestP6Lines: what a raw program has besides.
func TestP6Lines(t *testing.T) {
	for _, l := range []string{"free p", "free x.a", "free x.b", "free o.s", "flag 0 0", "flag 0 1", "flag 1 1", "flag 9 0", "flag 10 1", "flag 48 1", "flag 49 0", "flag 49 1"} {
		wantsRaw(t, "P6", head+l+", end n", api.OK, 0)
		wantsRaw(t, "P6", head+l, api.ErrForm, next+1)               // it is no terminator
		wantsRaw(t, "P6", "let n int, "+l+", end n", api.ErrForm, 1) // it stands in a block
		wantsRaw(t, "P6", head+"end n, "+l, api.ErrForm, next+1)
	}
	for _, l := range []string{"test 0 0 0", "test 1 0 0", "test 49 0 0"} {
		wantsRaw(t, "P6", head+l, api.OK, 0)
		wantsRaw(t, "P6", head+l+", end n", api.ErrForm, next+1) // it is a terminator
		wantsRaw(t, "P6", "let n int, "+l, api.ErrForm, 1)
		wantsRaw(t, "P6", head+"end n, "+l, api.ErrForm, next+1)
	}
	wantsRaw(t, "P6", head+"test 0 1 2, block, test 7 0 2, block, test 49 2 1", api.OK, 0)
}

// TestP6NoDrop: what a raw program has not, whatever would be dropped.
func TestP6NoDrop(t *testing.T) {
	for _, l := range []string{"drop p", "drop x", "drop o", "drop x.a", "drop o.s", "drop z", "drop n", "drop"} {
		wantsRaw(t, "P6", head+l+", end n", api.ErrForm, next)
	}
}

func TestP6Form(t *testing.T) {
	for _, l := range []string{
		"free", "free 1", "free p q", "free x.c", "free .a", "free x.", "free abcde", "free P", "free p ", "free  p", "Free p",
		"flag", "flag 0", "flag 0 1 1", "flag n 1", "flag 0 n", "flag 0 o.s", "flag  0 1", "flag 0 1 ", " flag 0 1", "Flag 0 1",
		"test", "test 0", "test 0 0", "test 0 0 0 0", "test n 0 0", "test 0 n 0", "test 0 0 n", "test 0 0 -1", "test 0 -1 0", "test 0 00 0", "test 0 0 00", "test 0 1000000001 0", "test 0 0 1000000001", "Test 0 0 0", "test 0 0 0 ",
	} {
		wantsRaw(t, "P6", head+l+", end n", api.ErrForm, next)
		wantsRaw(t, "P6", head+"in n, "+l, api.ErrForm, next+1)
	}
}

// TestP6Flags: the numbers and values of flags that may not be.
func TestP6Flags(t *testing.T) {
	for f := range api.MaxFlags {
		number := strconv.Itoa(f)
		wantsRaw(t, "P6", head+"flag "+number+" 0, flag "+number+" 1, test "+number+" 0 0", api.OK, 0)
	}
	for _, f := range []string{"50", "51", "100", "-1", "-0", "-49", "00", "01", "049", "+1", "1.0", "", "x", "٣", "1000000000", "4294967296", "18446744073709551616"} {
		wantsRaw(t, "P6", head+"flag "+f+" 0, end n", api.ErrForm, next)
		wantsRaw(t, "P6", head+"flag "+f+" 1, end n", api.ErrForm, next)
		wantsRaw(t, "P6", head+"test "+f+" 0 0", api.ErrForm, next)
	}
	for _, v := range []string{"2", "-1", "-0", "00", "01", "10", "11", "+1", "", "x", "true", "1000000000", "4294967297", "18446744073709551617"} {
		wantsRaw(t, "P6", head+"flag 0 "+v+", end n", api.ErrForm, next)
		wantsRaw(t, "P6", head+"flag 49 "+v+", end n", api.ErrForm, next)
	}
}

func TestP6NamesAndTypes(t *testing.T) {
	for _, l := range []string{"free z", "free z.a", "free z.b", "free z.s"} {
		wantsRaw(t, "P6", head+l+", end n", api.ErrName, next)
	}
	for _, l := range []string{"test 0 1 0", "test 0 0 1", "test 0 0 1000000000", "test 49 49 0"} {
		wantsRaw(t, "P6", head+l, api.ErrName, next)
	}
	wantsRaw(t, "P6", head+"end n, block, test 0 0 2", api.ErrName, next+2)
	for _, l := range []string{"free n", "free x", "free o", "free n.a", "free n.s", "free p.a", "free p.s", "free x.s", "free o.a", "free o.b"} {
		wantsRaw(t, "P6", head+l+", end n", api.ErrType, next)
		wantsRaw(t, "P6", head+"end n, block, "+l+", end n", api.ErrType, next+2)
	}
}

func TestP6Long(t *testing.T) {
	lines := func(n int) string { return "let n int, block" + strings.Repeat(", flag 0 1", n-3) + ", end n" }
	for _, n := range []int{3, api.MaxLines, api.MaxLines + 1, api.MaxRawLines - 1, api.MaxRawLines} {
		wantsRaw(t, "P6", lines(n), api.OK, 0)
	}
	wantsRaw(t, "P6", lines(api.MaxRawLines+1), api.ErrLong, 0)
	wantsRaw(t, "P6", lines(api.MaxRawLines)+", ", api.ErrLong, 0) // an empty line is one too
	wantsRaw(t, "P6", lines(api.MaxRawLines-1)+", ", api.ErrForm, api.MaxRawLines-1)
	wantsRaw(t, "P6", strings.Repeat(", ", api.MaxRawLines-1), api.ErrForm, 0)
	wantsRaw(t, "P6", strings.Repeat(", ", api.MaxRawLines), api.ErrLong, 0)
	wantsRaw(t, "P6", strings.TrimSuffix(lines(api.MaxRawLines+1), ", end n"), api.ErrForm, api.MaxRawLines) // it ends ahead of its time
}

// TestP6Blocks: of 4000 lines there can be 1999 blocks; with more there are too many lines.
func TestP6Blocks(t *testing.T) {
	blocks := func(n int, last string) string {
		return "let n int" + strings.Repeat(", block, goto 0", n-1) + ", block, " + last
	}
	for _, n := range []int{1, api.MaxBlocks, api.MaxBlocks + 1, 1000, 1999} {
		wantsRaw(t, "P6", blocks(n, "goto "+strconv.Itoa(n-1)), api.OK, 0)
		wantsRaw(t, "P6", blocks(n, "goto "+strconv.Itoa(n)), api.ErrName, 2*n)
		wantsRaw(t, "P6", blocks(n, "test 0 "+strconv.Itoa(n-1)+" 0"), api.OK, 0)
		wantsRaw(t, "P6", blocks(n, "test 0 0 "+strconv.Itoa(n)), api.ErrName, 2*n)
	}
	wantsRaw(t, "P6", "let n int"+strings.Repeat(", block, goto 0", 1999)+", block", api.ErrForm, api.MaxRawLines)
	wantsRaw(t, "P6", blocks(api.MaxRawBlocks, "goto 0"), api.ErrLong, 0)
	wantsRaw(t, "P6", blocks(api.MaxRawBlocks+1, "goto 0"), api.ErrLong, 0)
}

// TestP6NothingIsLookedAfter: what a line needs is nothing to Look.
func TestP6NothingIsLookedAfter(t *testing.T) {
	for _, l := range []string{"end m", "out m, end n", "load n p, store q m, move p q, move x y, move l o, some l p, end n", "free p, free p, load n p, end n", "match l 0 0", "new p n, new p n, end n", "if m 0 0"} {
		wantsRaw(t, "P6", head+l, api.OK, 0)
	}
}

// TestP1FirstNamedOfRaw: where several errors apply, the one named first is the answer, wherever the others stand.
func TestP1FirstNamedOfRaw(t *testing.T) {
	const kind, name, form = "free n, ", "free z, ", "flag 50 0, "
	long := strings.Repeat("in n, ", api.MaxRawLines)
	wantsRaw(t, "P1", head+kind+name+form+long+"end n", api.ErrLong, 0)
	wantsRaw(t, "P1", head+kind+name+form+"end n", api.ErrForm, next+2)
	wantsRaw(t, "P1", head+kind+name+"drop n, end n", api.ErrForm, next+2)
	wantsRaw(t, "P1", head+kind+name+"end n", api.ErrName, next+1)
	wantsRaw(t, "P1", head+kind+"end n", api.ErrType, next)
	wantsRaw(t, "P1", head+kind+"test 0 1 0", api.ErrName, next+1)
	wantsRaw(t, "P1", strings.TrimSuffix(head+kind+name, ", "), api.ErrForm, next+2) // it ends ahead of its time
}
