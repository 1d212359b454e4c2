package lines_test

import (
	"bytes"
	"math"
	"slices"
	"strings"
	"testing"
	"unicode/utf8"

	"exegete/lines"
)

// The calls have the signatures of the chapter.
var (
	_ func(b []byte, at int) int      = lines.Begin
	_ func(b []byte, at int) int      = lines.Line
	_ func(b []byte, at, tab int) int = lines.Col
	_ func(b []byte, at int) int      = lines.First
	_ func(b []byte) []int            = lines.Ends
)

// ownBegin goes back from at, place by place.
func ownBegin(b []byte, at int) int {
	for at > 0 && b[at-1] != 10 {
		at--
	}
	return at
}

// ownFirst is at if that is the end, or no blank's, or else what it is of the place behind.
func ownFirst(b []byte, at int) int {
	if at == len(b) || !strings.ContainsRune(" \t\r", rune(b[at])) || b[at] > 127 {
		return at
	}
	return ownFirst(b, at+1)
}

// ownCol goes through a line by the library's decoder, and through a tab column by column.
func ownCol(b []byte, at, tab int) int {
	col := 0
	for from := ownBegin(b, at); ; {
		_, n := utf8.DecodeRune(b[from:])
		if n == 0 || from+n > at {
			return col
		}
		col++
		for b[from] == 9 && col%tab != 0 {
			col++
		}
		from += n
	}
}

// ownEnds asks each place whether it is one.
func ownEnds(b []byte) []int {
	var ends []int
	for at := range len(b) + 1 {
		if at == len(b) || at > 0 && b[at-1] == 10 {
			ends = append(ends, at)
		}
	}
	return ends
}

// texts hands on all bytes of up to most pieces of those told.
func texts(most int, pieces ...string) func(yield func([]byte) bool) {
	return func(yield func([]byte) bool) {
		var grow func(b []byte, left int) bool
		grow = func(b []byte, left int) bool {
			if !yield(bytes.Clone(b)) {
				return false
			}
			if left == 0 {
				return true
			}
			for _, p := range pieces {
				if !grow(append(bytes.Clone(b), p...), left-1) {
					return false
				}
			}
			return true
		}
		grow(nil, most)
	}
}

// noPlaces are numbers that are no place of n bytes.
func noPlaces(n int) []int {
	return []int{math.MinInt, math.MinInt + 1, math.MinInt32, -n - 1, -2, -1, n + 1, n + 2, math.MaxInt32, 1 << 32, math.MaxInt - 1, math.MaxInt}
}

// noTabs are numbers that no tab stops are apart by.
var noTabs = []int{math.MinInt, math.MinInt + 1, math.MinInt32, -16, -4, -2, -1, 0, 17, 18, 32, 257, 1 << 32, 1<<32 + 4, math.MaxInt - 1, math.MaxInt}

// told holds, place by place, what Begin, Line, First, and Col by 4 answer, written out by hand.
var told = []struct {
	b     string
	begin []int
	line  []int
	first []int
	col   []int
	ends  []int
}{
	{"", []int{0}, []int{0}, []int{0}, []int{0}, []int{0}},
	{"x", []int{0, 0}, []int{0, 0}, []int{0, 1}, []int{0, 1}, []int{1}},
	{"\n", []int{0, 1}, []int{0, 1}, []int{0, 1}, []int{0, 0}, []int{1}},
	{"\n\n\n", []int{0, 1, 2, 3}, []int{0, 1, 2, 3}, []int{0, 1, 2, 3}, []int{0, 0, 0, 0}, []int{1, 2, 3}},
	{"\nx", []int{0, 1, 1}, []int{0, 1, 1}, []int{0, 1, 2}, []int{0, 0, 1}, []int{1, 2}},
	{"x\n", []int{0, 0, 2}, []int{0, 0, 1}, []int{0, 1, 2}, []int{0, 1, 0}, []int{2}},
	{"ab\n\ncd\n", []int{0, 0, 0, 3, 4, 4, 4, 7}, []int{0, 0, 0, 1, 2, 2, 2, 3}, []int{0, 1, 2, 3, 4, 5, 6, 7}, []int{0, 1, 2, 0, 0, 1, 2, 0}, []int{3, 4, 7}},
	{"   ", []int{0, 0, 0, 0}, []int{0, 0, 0, 0}, []int{3, 3, 3, 3}, []int{0, 1, 2, 3}, []int{3}},
	{" \t\r\n x", []int{0, 0, 0, 0, 4, 4, 4}, []int{0, 0, 0, 0, 1, 1, 1}, []int{3, 3, 3, 3, 5, 5, 6}, []int{0, 1, 4, 5, 0, 1, 2}, []int{4, 6}},
	{"a\tb", []int{0, 0, 0, 0}, []int{0, 0, 0, 0}, []int{0, 2, 2, 3}, []int{0, 1, 4, 5}, []int{3}},
	{"\r\r", []int{0, 0, 0}, []int{0, 0, 0}, []int{2, 2, 2}, []int{0, 1, 2}, []int{2}},
	{"\v\f\x00\x85\xa0", []int{0, 0, 0, 0, 0, 0}, []int{0, 0, 0, 0, 0, 0}, []int{0, 1, 2, 3, 4, 5}, []int{0, 1, 2, 3, 4, 5}, []int{5}},
}

// P4.1, P4.2, P4.3: by hand, at every place.
func TestTold(t *testing.T) {
	for _, c := range told {
		b := []byte(c.b)
		for at := range len(b) + 1 {
			if got := lines.Begin(b, at); got != c.begin[at] {
				t.Errorf("Begin(%q, %d) = %d; want %d", b, at, got, c.begin[at])
			}
			if got := lines.Line(b, at); got != c.line[at] {
				t.Errorf("Line(%q, %d) = %d; want %d", b, at, got, c.line[at])
			}
			if got := lines.First(b, at); got != c.first[at] {
				t.Errorf("First(%q, %d) = %d; want %d", b, at, got, c.first[at])
			}
			if got := lines.Col(b, at, 4); got != c.col[at] {
				t.Errorf("Col(%q, %d, 4) = %d; want %d", b, at, got, c.col[at])
			}
		}
		if got := lines.Ends(b); !slices.Equal(got, c.ends) {
			t.Errorf("Ends(%q) = %v; want %v", b, got, c.ends)
		}
	}
}

// P4.2: the example, and tabs at their multiples, ahead of them and behind them.
func TestTabs(t *testing.T) {
	for _, c := range []struct {
		b             string
		at, tab, want int
	}{
		{"a\tb", 2, 4, 4},
		{"\t", 1, 1, 1}, {"a\t", 2, 1, 2}, {"ab\t\t", 4, 1, 4},
		{"\t", 1, 2, 2}, {"a\t", 2, 2, 2}, {"ab\t", 3, 2, 4}, {"abc\t", 4, 2, 4},
		{"\t", 1, 3, 3}, {"ab\t", 3, 3, 3}, {"abc\t", 4, 3, 6}, {"abcd\t", 5, 3, 6},
		{"\t", 1, 16, 16}, {"123456789012345\t", 16, 16, 16}, {"1234567890123456\t", 17, 16, 32}, {"12345678901234567\t", 18, 16, 32},
		{"\t\t\t", 2, 16, 32}, {"\t\t\t", 3, 16, 48}, {"\t\t\t", 3, 2, 6}, {"a\t\tb\t", 5, 4, 12},
		{"\xc3\xa4\t", 3, 4, 4}, {"\xc3\xa4\t", 2, 4, 1}, {"\xe2\x82\xac\t", 4, 4, 4}, {"\xf0\x9f\x98\x80\t", 5, 4, 4},
		{"abc\xc3\xa4\t", 6, 4, 8}, {"ab\xe2\x82\xac\t", 6, 4, 4}, {"abc\xf0\x9f\x98\x80\t", 8, 4, 8},
		{"\xe2\x82\t", 3, 2, 4}, {"\xe2\x82\t", 3, 4, 4}, {"\xf0\x9f\x98\t", 4, 3, 6}, {"\xc3\t", 2, 16, 16},
		{"\tx\n\ty", 3, 8, 0}, {"\tx\n\ty", 4, 8, 8}, {"\tx\n\ty", 5, 8, 9}, {"\t\xff\tx", 3, 8, 16},
	} {
		if got := lines.Col([]byte(c.b), c.at, c.tab); got != c.want {
			t.Errorf("Col(%q, %d, %d) = %d; want %d", c.b, c.at, c.tab, got, c.want)
		}
	}
}

// P4.2: places within a scalar's bytes, and bytes that are no scalar's, or that break off.
func TestUnits(t *testing.T) {
	for _, c := range []struct {
		b    string
		cols []int
	}{
		{"\xc3\xa4", []int{0, 0, 1}},
		{"\xe2\x82\xac", []int{0, 0, 0, 1}},
		{"\xf0\x9f\x98\x80", []int{0, 0, 0, 0, 1}},
		{"x\xf0\x9f\x98\x80y", []int{0, 1, 1, 1, 1, 2, 3}},
		{"\xc3", []int{0, 1}},
		{"\xe2\x82", []int{0, 1, 2}},
		{"\xf0\x9f\x98", []int{0, 1, 2, 3}},
		{"\xf0\x9f\x98\n\x80", []int{0, 1, 2, 3, 0, 1}},
		{"\xc3\n\xa4", []int{0, 1, 0, 1}},
		{"\x80\xbf\xff", []int{0, 1, 2, 3}},
		{"\xc0\x80", []int{0, 1, 2}},
		{"\xed\xa0\x80", []int{0, 1, 2, 3}},
		{"\xf4\x90\x80\x80", []int{0, 1, 2, 3, 4}},
		{"\xe2\x82\xc3\xa4", []int{0, 1, 2, 2, 3}},
		{"\xc3\xc3\xa4\xa4", []int{0, 1, 1, 2, 3}},
	} {
		for at, want := range c.cols {
			for _, tab := range []int{1, 4, 16} {
				if got := lines.Col([]byte(c.b), at, tab); got != want {
					t.Errorf("Col(%q, %d, %d) = %d; want %d", c.b, at, tab, got, want)
				}
			}
		}
	}
}

// P4.1, P4.2: of what is no place -1.
func TestNoPlaces(t *testing.T) {
	for _, s := range []string{"", "x", "\n", "a\tb\n", " \xc3\xa4"} {
		b := []byte(s)
		for _, at := range noPlaces(len(b)) {
			if got := [4]int{lines.Begin(b, at), lines.Line(b, at), lines.First(b, at), lines.Col(b, at, 4)}; got != [4]int{-1, -1, -1, -1} {
				t.Errorf("%q at %d: %v; want -1 of each", s, at, got)
			}
			for _, tab := range noTabs {
				if got := lines.Col(b, at, tab); got != -1 {
					t.Errorf("Col(%q, %d, %d) = %d; want -1", s, at, tab, got)
				}
			}
		}
	}
	behind := []byte("a\n  b\n")[:2]
	if got := [4]int{lines.Begin(behind, 3), lines.Line(behind, 3), lines.First(behind, 3), lines.Col(behind, 3, 4)}; got != [4]int{-1, -1, -1, -1} {
		t.Errorf("behind the end, where memory goes on: %v; want -1 of each", got)
	}
}

// P4.2: tabs that are none, at places.
func TestNoTabs(t *testing.T) {
	for _, s := range []string{"", "x", "\n", "a\tb\n", " \xc3\xa4"} {
		for at := range len(s) + 1 {
			for _, tab := range noTabs {
				if got := lines.Col([]byte(s), at, tab); got != -1 {
					t.Errorf("Col(%q, %d, %d) = %d; want -1", s, at, tab, got)
				}
			}
			for tab := 1; tab <= 16; tab++ {
				if got := lines.Col([]byte(s), at, tab); got < 0 {
					t.Errorf("Col(%q, %d, %d) = %d", s, at, tab, got)
				}
			}
		}
	}
}

// P4.1, P4.2, P4.3, P4.4: of all bytes of few pieces, at every place, by every tab.
func TestAll(t *testing.T) {
	pieces := []string{"x", " ", "\t", "\r", "\n", "\xc3\xa4", "\xe2", "\x82", "\xac", "\xf0\x9f\x98\x80"}
	for b := range texts(4, pieces...) {
		if got, want := lines.Ends(b), ownEnds(b); !slices.Equal(got, want) {
			t.Fatalf("Ends(%q) = %v; want %v", b, got, want)
		}
		for at := range len(b) + 1 {
			begin := ownBegin(b, at)
			if got := lines.Begin(b, at); got != begin {
				t.Fatalf("Begin(%q, %d) = %d; want %d", b, at, got, begin)
			}
			if got, want := lines.Line(b, at), bytes.Count(b[:at], []byte{10}); got != want {
				t.Fatalf("Line(%q, %d) = %d; want %d", b, at, got, want)
			}
			if got, want := lines.First(b, at), ownFirst(b, at); got != want {
				t.Fatalf("First(%q, %d) = %d; want %d", b, at, got, want)
			}
			for _, tab := range []int{1, 2, 3, 4, 8, 16} {
				got, want := lines.Col(b, at, tab), ownCol(b, at, tab)
				if got != want {
					t.Fatalf("Col(%q, %d, %d) = %d; want %d", b, at, tab, got, want)
				}
				if many := at - begin; got > 16*many || got < many/4 {
					t.Fatalf("Col(%q, %d, %d) = %d, of %d bytes", b, at, tab, got, many)
				}
			}
		}
	}
}

// P4.1, P4.3: each byte alone, and what it is held to be.
func TestEachByte(t *testing.T) {
	for c := range 256 {
		b := []byte{'x', byte(c), 'y'}
		begin, line, ends := 0, 0, []int{3}
		if c == 10 {
			begin, line, ends = 2, 1, []int{2, 3}
		}
		if got := lines.Begin(b, 2); got != begin {
			t.Errorf("Begin behind %d: %d; want %d", c, got, begin)
		}
		if got := lines.Line(b, 2); got != line {
			t.Errorf("Line behind %d: %d; want %d", c, got, line)
		}
		if got := lines.Ends(b); !slices.Equal(got, ends) {
			t.Errorf("Ends about %d: %v; want %v", c, got, ends)
		}
		first := 1
		if c == 32 || c == 9 || c == 13 {
			first = 2
		}
		if got := lines.First(b, 1); got != first {
			t.Errorf("First at %d: %d; want %d", c, got, first)
		}
		col := 2
		switch c {
		case 10:
			col = 0
		case 9:
			col = 16
		}
		if got := lines.Col(b, 2, 16); got != col {
			t.Errorf("Col behind %d: %d; want %d", c, got, col)
		}
	}
}

// P4.4: the bounds are come to: by tabs of 16 alone, and by scalars of four bytes alone.
func TestBounds(t *testing.T) {
	for many := range 50 {
		tabs := []byte("\n" + strings.Repeat("\t", many))
		if got, want := lines.Col(tabs, len(tabs), 16), 16*many; got != want {
			t.Errorf("behind %d tabs: %d; want %d", many, got, want)
		}
		fours := []byte("\n" + strings.Repeat("\xf0\x9f\x98\x80", many))
		if got := lines.Col(fours, len(fours), 16); got != many {
			t.Errorf("behind %d scalars of four bytes: %d; want %d", many, got, many)
		}
	}
}

// P4.4: where a unit ends the column is a fourth of the bytes, or more, without a rest.
func TestFourthAtUnits(t *testing.T) {
	b := []byte("\xf0\x9f\x98\x80\xf0\x9f\x98\x80a\xe2\x82\xac\t\xff\xf0\x9f\x98\x80\n\xf0\x9f\x98\x80")
	for at := 0; at < len(b); {
		if col, many := lines.Col(b, at, 1), at-lines.Begin(b, at); 4*col < many {
			t.Errorf("at %d: column %d of %d bytes", at, col, many)
		}
		_, n := utf8.DecodeRune(b[at:])
		at += n
	}
}

// P4.3 with R3: what is answered is the caller's own, and what is handed in stays as it was, also behind its end.
func TestOwn(t *testing.T) {
	whole := []byte("a\tb\n \xc3\xa4\n\nrest\n")
	b := whole[:9]
	before := bytes.Clone(whole)
	want := []int{4, 8, 9}
	one, two := lines.Ends(b), lines.Ends(b)
	for i := range one {
		one[i] = -7
	}
	if !slices.Equal(two, want) || !slices.Equal(lines.Ends(b), want) {
		t.Errorf("%v behind a change; want %v", two, want)
	}
	for at := -1; at <= len(b)+1; at++ {
		lines.Begin(b, at)
		lines.Line(b, at)
		lines.First(b, at)
		lines.Col(b, at, 4)
	}
	if !bytes.Equal(whole, before) {
		t.Errorf("%q became %q", before, whole)
	}
	for i := range whole {
		whole[i] = 10
	}
	if !slices.Equal(two, want) {
		t.Errorf("%v behind a change of the bytes; want %v", two, want)
	}
}

// R1: long bytes are gone through soon.
func TestLong(t *testing.T) {
	const many = 1 << 22
	b := bytes.Repeat([]byte{'\t'}, many)
	if got := lines.Col(b, many, 16); got != 16*many {
		t.Errorf("column %d; want %d", got, 16*many)
	}
	if got := lines.First(b, 0); got != many {
		t.Errorf("first %d; want %d", got, many)
	}
	b = bytes.Repeat([]byte{10}, many)
	if got := lines.Ends(b); len(got) != many || got[0] != 1 || got[many-1] != many {
		t.Errorf("%d ends", len(got))
	}
	if begin, line := lines.Begin(b, many), lines.Line(b, many); begin != many || line != many {
		t.Errorf("begin %d, line %d; want %d", begin, line, many)
	}
}
