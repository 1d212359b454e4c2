package read_test

import (
	"fmt"
	"math"
	"math/rand"
	"reflect"
	"slices"
	"strings"
	"testing"

	"exegete/api"
	"exegete/read"
	"exegete/token"
)

// The calls have the signatures of the chapter.
var (
	_ func(s string) (api.File, int, api.Errno) = read.File
	_ func(a, b api.File) bool                  = read.Same
)

func call(name string, at int) api.Part {
	return api.Part{Kind: api.Call, Text: name, At: at}
}

func text(s string, at int) api.Part {
	return api.Part{Kind: api.Text, Text: s, At: at}
}

func set(lo, hi, at int) api.Part {
	return api.Part{Kind: api.Set, R: []api.Range{{Lo: lo, Hi: hi}}, At: at}
}

func octets(lo, hi, at int) api.Part {
	return api.Part{Kind: api.Octs, R: []api.Range{{Lo: lo, Hi: hi}}, At: at}
}

// of is a Seq, an Or, a Star, a Plus or an Opt.
func of(kind, at int, l ...api.Part) api.Part {
	return api.Part{Kind: kind, L: l, At: at}
}

func rule(name string, at int, e api.Part) api.Rule {
	return api.Rule{Name: name, E: e, At: at}
}

func file(l ...api.Rule) api.File {
	return api.File{R: l}
}

// alike tells whether two files are the same, also where things begin.
func alike(a, b api.File) bool {
	return slices.Equal(a.Keys, b.Keys) && slices.EqualFunc(a.R, b.R, func(a, b api.Rule) bool {
		return a.Name == b.Name && a.Marks == b.Marks && a.At == b.At && slices.Equal(a.Not, b.Not) && alikePart(a.E, b.E)
	})
}

func alikePart(a, b api.Part) bool {
	return a.Kind == b.Kind && a.Text == b.Text && a.At == b.At && slices.Equal(a.R, b.R) && slices.EqualFunc(a.L, b.L, alikePart)
}

// reads fails the test if File tells another file of s.
func reads(t *testing.T, s string, want api.File) {
	t.Helper()
	if f, at, e := read.File(s); e != api.OK || at != len(s) || !alike(f, want) {
		t.Errorf("File(%q) = %v, %d, %d; want %v, %d, 0", s, f, at, e, want, len(s))
	}
}

// readsRule fails the test if File tells another part of the rule that "a=" and s and ";" are; places are those behind "a=".
func readsRule(t *testing.T, s string, want api.Part) {
	t.Helper()
	reads(t, "a="+s+";", file(rule("a", 0, moved(want, 2))))
}

// moved is a part that begins so many bytes later, and so do its parts.
func moved(p api.Part, by int) api.Part {
	var l []api.Part
	for _, x := range p.L {
		l = append(l, moved(x, by))
	}
	p.At += by
	p.L = l
	return p
}

// refuses fails the test if File tells anything but the error, there.
func refuses(t *testing.T, s string, at int, e api.Errno) {
	t.Helper()
	if f, gotAt, gotE := read.File(s); gotE != e || gotAt != at || len(f.Keys) != 0 || len(f.R) != 0 {
		t.Errorf("File(%q) = %v, %d, %d; want nothing, %d, %d", s, f, gotAt, gotE, at, e)
	}
}

// asOwn fails the test if File tells anything but what the other reckoning does.
func asOwn(t *testing.T, s string) {
	f, at, e := read.File(s)
	want, wantAt, wantE := ownFile(s)
	if at != wantAt || e != wantE || !alike(f, want) {
		t.Helper()
		t.Fatalf("File(%q) = %v, %d, %d; want %v, %d, %d", s, f, at, e, want, wantAt, wantE)
	}
}

// P6.1: no bytes at all, and blanks alone, end too soon.
func TestNothing(t *testing.T) {
	for _, s := range []string{"", " ", "\t", "\n", "\r", "  \r\n\t ", strings.Repeat("\n", 3000)} {
		refuses(t, s, len(s), api.ErrSyntax)
	}
}

// P6.1: the example.
func TestExample(t *testing.T) {
	reads(t, `a = b* | "c";`, file(rule("a", 0, of(api.Or, 4, of(api.Star, 4, call("b", 4)), text("c", 9)))))
}

// P6.1: all parts of a file at once, with blanks about it.
func TestWhole(t *testing.T) {
	s := "\n% \"if\" \"\\x00\";\n@sync @long a = b+ / [x-z];\n b = ( c | <0a-0c> )? [d] ; "
	want := api.File{Keys: []string{"if", "\x00"}, R: []api.Rule{
		{Name: "a", Marks: 33, E: of(api.Plus, 32, call("b", 32)), Not: []api.Range{{Lo: 'x', Hi: 'z'}}, At: 28},
		{Name: "b", E: of(api.Seq, 49, of(api.Opt, 51, of(api.Or, 51, call("c", 51), octets(10, 12, 55))), set('d', 'd', 66)), At: 45},
	}}
	reads(t, s, want)
}

// P6.1: no keys, one, several, the same one twice, eight and nine; keys alone; a % without a Lit; what can't be a key.
func TestKeys(t *testing.T) {
	reads(t, "a=;", file(rule("a", 0, of(api.Seq, 2))))
	keys := []string{"a", "if", "\xff\x00", "%", ";", "a", "do", "\""}
	written := []string{`"a"`, `"if"`, `"\xff\x00"`, `"%"`, `";"`, `"a"`, `"do"`, `"\x22"`}
	for many := 1; many <= len(keys); many++ {
		head := "% " + strings.Join(written[:many], " ") + ";"
		want := file(rule("a", len(head), of(api.Seq, len(head)+2)))
		want.Keys = keys[:many]
		reads(t, head+"a=;", want)
		refuses(t, head, len(head), api.ErrSyntax)
		refuses(t, head+" \n", len(head)+2, api.ErrSyntax)
	}
	eight := "%" + strings.Repeat(`"k"`, 8)
	refuses(t, eight+`"k";a=;`, len(eight), api.ErrSize)
	refuses(t, eight+` "k"`, len(eight)+1, api.ErrSize)
	refuses(t, eight+`"k""k" a`, len(eight), api.ErrSize)
	refuses(t, eight, len(eight), api.ErrSyntax)
	refuses(t, eight+"k;a=;", len(eight), api.ErrSyntax)
	refuses(t, "%", 1, api.ErrSyntax)
	refuses(t, "%;a=;", 1, api.ErrSyntax)
	refuses(t, "% ; a=;", 2, api.ErrSyntax)
	refuses(t, "%a=;", 1, api.ErrSyntax)
	refuses(t, `%"k"`, 4, api.ErrSyntax)
	refuses(t, `%"k"a=;`, 4, api.ErrSyntax)
	refuses(t, `%"k"[l];a=;`, 4, api.ErrSyntax)
	refuses(t, `%%"k";a=;`, 1, api.ErrSyntax)
	refuses(t, `%"k";%"k";a=;`, 5, api.ErrSyntax)
	refuses(t, `a=;%"k";`, 3, api.ErrSyntax)
	refuses(t, `"k";a=;`, 0, api.ErrSyntax)
}

// P6.1: from one rule to sixteen, with keys and without; the seventeenth one, with marks ahead of its name, and where that is not there.
func TestRules(t *testing.T) {
	for _, head := range []string{"", `%"k""l";`} {
		s, want := head, api.File{}
		if head != "" {
			want.Keys = []string{"k", "l"}
		}
		for i := range 16 {
			name := string([]byte{'a' + byte(i)})
			want.R = append(want.R, rule(name, len(s), call("a", len(s)+2)))
			s += name + "=a;"
			reads(t, s, want)
		}
		refuses(t, s+"q=a;", len(s), api.ErrSize)
		refuses(t, s+"q", len(s), api.ErrSize)
		refuses(t, s+"q;", len(s), api.ErrSize)
		refuses(t, s+" @long q=a;", len(s)+7, api.ErrSize)
		refuses(t, s+"@res@off@res\nq", len(s)+13, api.ErrSize)
		refuses(t, s+"@long", len(s)+5, api.ErrSyntax)
		refuses(t, s+"@long=a;", len(s)+5, api.ErrSyntax)
		refuses(t, s+"=a;", len(s), api.ErrSyntax)
		refuses(t, s+";", len(s), api.ErrSyntax)
		refuses(t, s+`"q"`, len(s), api.ErrSyntax)
	}
}

// P6.1: rules may have the same name, and names of 12 bytes, and those of marks.
func TestNames(t *testing.T) {
	reads(t, "a=;a=;", file(rule("a", 0, of(api.Seq, 2)), rule("a", 3, of(api.Seq, 5))))
	reads(t, "abcdefghijkl=long;", file(rule("abcdefghijkl", 0, call("long", 13))))
	refuses(t, "abcdefghijklm=;", 0, api.ErrSign)
}

// P6.1: no marks, each of the six, the same one twice, all of them, in all orders of two.
func TestMarks(t *testing.T) {
	names := []string{"@long", "@res", "@off", "@block", "@align", "@sync"}
	bits := []int{api.Long, api.Res, api.Off, api.Block, api.Align, api.Sync}
	marked := func(head string, marks int) {
		t.Helper()
		want := file(rule("a", len(head), call("b", len(head)+2)), rule("b", len(head)+4, of(api.Seq, len(head)+6)))
		want.R[0].Marks = marks
		reads(t, head+"a=b;b=;", want)
	}
	marked("", 0)
	for i, a := range names {
		marked(a+" ", 1<<i)
		if bits[i] != 1<<i {
			t.Error(a, bits[i])
		}
		for j, b := range names {
			marked(a+b+"\n", 1<<i|1<<j)
			marked(a+b+a+"\n", 1<<i|1<<j)
		}
	}
	marked(strings.Join(names, "")+" ", 63)
	marked(strings.Repeat("@sync", 90)+" ", 32)
	refuses(t, "a@long=b;", 1, api.ErrSyntax)
	refuses(t, "a=b@long;", 3, api.ErrSyntax)
	refuses(t, "a=b;@long", 9, api.ErrSyntax)
	refuses(t, "@long%;", 5, api.ErrSyntax)
	refuses(t, `@long "a"=;`, 6, api.ErrSyntax)
}

// P6.1: a rule of no items, of one of each kind, and of several.
func TestSeqs(t *testing.T) {
	readsRule(t, "", of(api.Seq, 0))
	readsRule(t, "  ", of(api.Seq, 2))
	readsRule(t, "b", call("b", 0))
	readsRule(t, ` "b\xff"`, text("b\xff", 1))
	readsRule(t, "\n[b-d]", set('b', 'd', 1))
	readsRule(t, "<0b-ff>", octets(11, 255, 0))
	readsRule(t, "[]", api.Part{Kind: api.Set})
	readsRule(t, "<>", api.Part{Kind: api.Octs})
	readsRule(t, "[a-cx-z]", api.Part{Kind: api.Set, R: []api.Range{{Lo: 'a', Hi: 'c'}, {Lo: 'x', Hi: 'z'}}})
	readsRule(t, "b c", of(api.Seq, 0, call("b", 0), call("c", 2)))
	readsRule(t, ` b"c"[d]<0e>f`, of(api.Seq, 1, call("b", 1), text("c", 2), set('d', 'd', 5), octets(14, 14, 8), call("f", 12)))
	readsRule(t, "b b b b", of(api.Seq, 0, call("b", 0), call("b", 2), call("b", 4), call("b", 6)))
}

// P6.1: one seq and several, empty ones among them, at the beginning, between and at the end.
func TestAlts(t *testing.T) {
	readsRule(t, "b|c", of(api.Or, 0, call("b", 0), call("c", 2)))
	readsRule(t, " b | c", of(api.Or, 1, call("b", 1), call("c", 5)))
	readsRule(t, "b c|d", of(api.Or, 0, of(api.Seq, 0, call("b", 0), call("c", 2)), call("d", 4)))
	readsRule(t, "b|c d|e", of(api.Or, 0, call("b", 0), of(api.Seq, 2, call("c", 2), call("d", 4)), call("e", 6)))
	readsRule(t, "|", of(api.Or, 0, of(api.Seq, 0), of(api.Seq, 1)))
	readsRule(t, " | ", of(api.Or, 1, of(api.Seq, 1), of(api.Seq, 3)))
	readsRule(t, "||", of(api.Or, 0, of(api.Seq, 0), of(api.Seq, 1), of(api.Seq, 2)))
	readsRule(t, "|b", of(api.Or, 0, of(api.Seq, 0), call("b", 1)))
	readsRule(t, "b|", of(api.Or, 0, call("b", 0), of(api.Seq, 2)))
	readsRule(t, "b | | c", of(api.Or, 0, call("b", 0), of(api.Seq, 4), call("c", 6)))
	readsRule(t, "| b c | ", of(api.Or, 0, of(api.Seq, 0), of(api.Seq, 2, call("b", 2), call("c", 4)), of(api.Seq, 8)))
	many := of(api.Or, 0, call("b", 0))
	for i := 1; i < 200; i++ {
		many.L = append(many.L, call("b", 2*i))
	}
	readsRule(t, strings.Repeat("b|", 199)+"b", many)
}

// P6.1: each of *, + and ? behind each kind of atom, behind several; two of them behind each other, and one with nothing ahead of it.
func TestOften(t *testing.T) {
	for sign, kind := range map[string]int{"*": api.Star, "+": api.Plus, "?": api.Opt} {
		readsRule(t, "b"+sign, of(kind, 0, call("b", 0)))
		readsRule(t, ` "b" `+sign, of(kind, 1, text("b", 1)))
		readsRule(t, "[b]\n"+sign, of(kind, 0, set('b', 'b', 0)))
		readsRule(t, "<0b>"+sign, of(kind, 0, octets(11, 11, 0)))
		readsRule(t, "(b)"+sign, of(kind, 1, call("b", 1)))
		readsRule(t, "(b|c)"+sign, of(kind, 1, of(api.Or, 1, call("b", 1), call("c", 3))))
		readsRule(t, "(b c)"+sign, of(kind, 1, of(api.Seq, 1, call("b", 1), call("c", 3))))
		readsRule(t, "()"+sign, of(kind, 1, of(api.Seq, 1)))
		readsRule(t, "b c"+sign, of(api.Seq, 0, call("b", 0), of(kind, 2, call("c", 2))))
		readsRule(t, "b"+sign+"c", of(api.Seq, 0, of(kind, 0, call("b", 0)), call("c", 2)))
		readsRule(t, "b"+sign+"|c"+sign, of(api.Or, 0, of(kind, 0, call("b", 0)), of(kind, 3, call("c", 3))))
		refuses(t, "a="+sign+";", 2, api.ErrSyntax)
		refuses(t, "a=|"+sign+";", 3, api.ErrSyntax)
		refuses(t, "a=b|"+sign+";", 4, api.ErrSyntax)
		refuses(t, "a=("+sign+"b);", 3, api.ErrSyntax)
		refuses(t, "a"+sign+"=b;", 1, api.ErrSyntax)
		for other, kindOfIt := range map[string]int{"*": api.Star, "+": api.Plus, "?": api.Opt} {
			refuses(t, "a=b"+sign+other+";", 4, api.ErrSyntax)
			refuses(t, "a=(b)"+sign+" "+other+";", 7, api.ErrSyntax)
			refuses(t, "a=[b]"+sign+other+";", 6, api.ErrSyntax)
			readsRule(t, "(b"+sign+")"+other, of(kindOfIt, 1, of(kind, 1, call("b", 1))))
			readsRule(t, "b"+sign+"c"+other, of(api.Seq, 0, of(kind, 0, call("b", 0)), of(kindOfIt, 2, call("c", 2))))
		}
	}
}

// P6.1: a sign as text is none.
func TestTextIsNoSign(t *testing.T) {
	readsRule(t, `b"*""|""(""/"";"`, of(api.Seq, 0, call("b", 0), text("*", 1), text("|", 4), text("(", 7), text("/", 10), text(";", 13)))
	refuses(t, `a"=";`, 1, api.ErrSyntax)
	refuses(t, `a=b";"`, 6, api.ErrSyntax)
	refuses(t, `a=(b")"`, 7, api.ErrSyntax)
	refuses(t, `a=b[;]`, 6, api.ErrSyntax)
	refuses(t, `"%""k";a=;`, 0, api.ErrSyntax)
}

// P6.1: brackets of one seq and of several, empty ones, within brackets, and what is not closed, or not opened.
func TestBrackets(t *testing.T) {
	readsRule(t, "(b)", call("b", 1))
	readsRule(t, "((b))", call("b", 2))
	readsRule(t, "()", of(api.Seq, 1))
	readsRule(t, "( )", of(api.Seq, 2))
	readsRule(t, "(())", of(api.Seq, 2))
	readsRule(t, "(b c)", of(api.Seq, 1, call("b", 1), call("c", 3)))
	readsRule(t, "(b|c)", of(api.Or, 1, call("b", 1), call("c", 3)))
	readsRule(t, "(|)", of(api.Or, 1, of(api.Seq, 1), of(api.Seq, 2)))
	readsRule(t, "(b c) d", of(api.Seq, 0, of(api.Seq, 1, call("b", 1), call("c", 3)), call("d", 6)))
	readsRule(t, "b (c d)", of(api.Seq, 0, call("b", 0), of(api.Seq, 3, call("c", 3), call("d", 5))))
	readsRule(t, "()()", of(api.Seq, 0, of(api.Seq, 1), of(api.Seq, 3)))
	readsRule(t, "()|b", of(api.Or, 1, of(api.Seq, 1), call("b", 3)))
	readsRule(t, "(b|c)|d", of(api.Or, 1, of(api.Or, 1, call("b", 1), call("c", 3)), call("d", 6)))
	readsRule(t, "b|(c|d)", of(api.Or, 0, call("b", 0), of(api.Or, 3, call("c", 3), call("d", 5))))
	readsRule(t, "((b)(c))", of(api.Seq, 1, call("b", 2), call("c", 5)))
	readsRule(t, "(b*)*", of(api.Star, 1, of(api.Star, 1, call("b", 1))))
	refuses(t, "a=(b;", 4, api.ErrSyntax)
	refuses(t, "a=((b);", 6, api.ErrSyntax)
	refuses(t, "a=b);", 3, api.ErrSyntax)
	refuses(t, "a=);", 2, api.ErrSyntax)
	refuses(t, "a=(b));", 5, api.ErrSyntax)
	refuses(t, "a=(b/[c]);", 4, api.ErrSyntax)
	refuses(t, "(a)=b;", 0, api.ErrSyntax)
	refuses(t, "a(=b);", 1, api.ErrSyntax)
}

// P6.1: brackets within twelve others are too deep; so many beside one another are not.
func TestDeep(t *testing.T) {
	for many := 1; many <= 12; many++ {
		readsRule(t, strings.Repeat("(", many)+"b"+strings.Repeat(")", many), call("b", many))
		readsRule(t, strings.Repeat("(", many)+strings.Repeat(")", many), of(api.Seq, many))
	}
	for many := 13; many < 149; many += 19 {
		refuses(t, "a="+strings.Repeat("(", many)+"b"+strings.Repeat(")", many)+";", 14, api.ErrDeep)
		refuses(t, "a="+strings.Repeat("(", many), 14, api.ErrDeep)
		refuses(t, "a="+strings.Repeat("(b|", many)+strings.Repeat(")", many)+";", 38, api.ErrDeep)
	}
	refuses(t, "a=(((((((((((( (", 15, api.ErrDeep)
	refuses(t, "a=((((((((((((", 14, api.ErrSyntax)
	refuses(t, "a=(((((((((((();", 15, api.ErrSyntax)
	twelve := strings.Repeat("(", 12) + strings.Repeat(")", 12)
	readsRule(t, twelve+twelve, of(api.Seq, 0, of(api.Seq, 12), of(api.Seq, 36)))
	readsRule(t, twelve+"|"+twelve, of(api.Or, 12, of(api.Seq, 12), of(api.Seq, 37)))
	reads(t, "a="+twelve+";b="+twelve+";", file(rule("a", 0, of(api.Seq, 14)), rule("b", 27, of(api.Seq, 41))))
	refuses(t, "a="+twelve+"b"+strings.Repeat("(", 13), 2+24+1+12, api.ErrDeep)
	inner := strings.Repeat("(", 11)
	refuses(t, "a="+inner+"()()(b)((c))", 2+11+4+3+1, api.ErrDeep)
	refuses(t, "a=b;c="+strings.Repeat("(", 13), 18, api.ErrDeep)
	wide := of(api.Seq, 0)
	for i := range 100 {
		wide.L = append(wide.L, of(api.Seq, 2*i+1))
	}
	readsRule(t, strings.Repeat("()", 100), wide)
}

// P6.1: what may not follow: a Class, of no scalars too, another token, and none.
func TestNot(t *testing.T) {
	not := func(s string, at int, e api.Part, l ...api.Range) {
		t.Helper()
		want := file(rule("a", 0, e), rule("b", at, of(api.Seq, at+2)))
		want.R[0].Not = l
		reads(t, s+"b=;", want)
	}
	not("a=b/[c];", 8, call("b", 2), api.Range{Lo: 'c', Hi: 'c'})
	not("a = b / [x-z0-9] ; ", 19, call("b", 4), api.Range{Lo: '0', Hi: '9'}, api.Range{Lo: 'x', Hi: 'z'})
	not("a=/[^\\u0;-\\u10ff;];", 19, of(api.Seq, 2), api.Range{Lo: 0x1100, Hi: 0xd7ff}, api.Range{Lo: 0xe000, Hi: 0x10ffff})
	not("a=b|/[c];", 9, of(api.Or, 2, call("b", 2), of(api.Seq, 4)), api.Range{Lo: 'c', Hi: 'c'})
	not("a=(b)*/[c];", 11, of(api.Star, 3, call("b", 3)), api.Range{Lo: 'c', Hi: 'c'})
	not("a=b/[];", 7, call("b", 2))
	not("a=b;", 4, call("b", 2))
	for _, s := range []string{"b", `"c"`, "<0c>", "@long", "=", "|", ";", "(", ")", "*", "+", "?", "/", "%"} {
		refuses(t, "a=b/"+s+"[c];", 4, api.ErrSyntax)
		refuses(t, "a=/ "+s, 4, api.ErrSyntax)
		if s != ";" {
			refuses(t, "a=b/[c]"+s+";", 7, api.ErrSyntax)
		}
	}
	refuses(t, "a=b/[c][d];", 7, api.ErrSyntax)
	refuses(t, "a=b/", 4, api.ErrSyntax)
	refuses(t, "a=b/[c]", 7, api.ErrSyntax)
	refuses(t, "/[c];", 0, api.ErrSyntax)
	refuses(t, "a/[c]=b;", 1, api.ErrSyntax)
}

// everySign is one token of each kind, and each sign.
var everySign = []string{"n", `"l"`, "[c]", "<0b>", "@long", "=", "|", ";", "(", ")", "*", "+", "?", "/", "%"}

// P6.1: behind each beginning those tokens alone can follow that the chapter says; the others are wrong, whatever is behind them.
func TestWhatFollows(t *testing.T) {
	atoms := `n "l" [c] <0b> (`
	for _, x := range []struct{ ahead, may string }{
		{"", "% @long n"},
		{"%", `"l"`},
		{`% "l"`, `"l" ;`},
		{`% "l" ;`, "@long n"},
		{"@long", "@long n"},
		{"n", "="},
		{"@long n", "="},
		{"n =", atoms + " | / ;"},
		{"n = n", atoms + " | / ; * + ?"},
		{`n = "l"`, atoms + " | / ; * + ?"},
		{"n = [c]", atoms + " | / ; * + ?"},
		{"n = <0b>", atoms + " | / ; * + ?"},
		{"n = ( )", atoms + " | / ; * + ?"},
		{"n = n *", atoms + " | / ;"},
		{"n = n +", atoms + " | / ;"},
		{"n = n ?", atoms + " | / ;"},
		{"n = n |", atoms + " | / ;"},
		{"n = (", atoms + " | )"},
		{"n = ( n", atoms + " | ) * + ?"},
		{"n = ( n *", atoms + " | )"},
		{"n = ( n |", atoms + " | )"},
		{"n = ( ( )", atoms + " | ) * + ?"},
		{"n = /", "[c]"},
		{"n = n / [c]", ";"},
		{"n = ;", "@long n"},
		{"n = n / [c] ;", "@long n"},
	} {
		may := strings.Fields(x.may)
		for _, s := range everySign {
			wrong := len(x.ahead) + 1
			for _, behind := range append([]string{""}, everySign...) {
				all := x.ahead + " " + s + " " + behind
				_, at, e := read.File(all)
				if told := e == api.ErrSyntax && at == wrong; told == slices.Contains(may, s) {
					t.Errorf("File(%q) tells %d at %d; that %s can follow is %t", all, e, at, s, !told)
				}
			}
		}
	}
}

// P6.1: a text that ends too soon, at each token, is wrong where it ends, blanks and all.
func TestEndsTooSoon(t *testing.T) {
	whole := []string{"%", `"k"`, `"l"`, ";", "@long", "@res", "a", "=", "b", "*", "(", "c", "|", "(", ")", "+", ")", "?", "[d]", "|", "<0e>", "/", "[f]", ";", "@off", "b", "=", ";"}
	for i := range whole {
		for _, blanks := range []string{"", " ", "\r\n"} {
			s := strings.Join(whole[:i], " ") + blanks
			if i == 24 {
				f, at, e := read.File(s)
				if len(f.R) != 1 || at != len(s) || e != api.OK {
					t.Errorf("File(%q) = %v, %d, %d", s, f, at, e)
				}
				continue
			}
			refuses(t, s, len(s), api.ErrSyntax)
		}
	}
	asOwn(t, strings.Join(whole, ""))
	asOwn(t, strings.Join(whole, " "))
}

// P6.1: a token that is none is told ahead of all that is wrong, wherever it stands.
func TestTokensAhead(t *testing.T) {
	refuses(t, "!", 0, api.ErrSign)
	refuses(t, "a=!", 2, api.ErrSign)
	refuses(t, "! ;;", 0, api.ErrSign)
	refuses(t, ";; !", 3, api.ErrSign)
	refuses(t, "; ! ;", 2, api.ErrSign)
	refuses(t, "a=b;!", 4, api.ErrSign)
	refuses(t, `a=""`, 2, api.ErrSign)
	refuses(t, "a=b @lang", 4, api.ErrSign)
	refuses(t, "a=[c", 2, api.ErrSign)
	deep := "a=" + strings.Repeat("(", 13)
	refuses(t, deep+"!", 15, api.ErrSign)
	keys := "%" + strings.Repeat(`"k"`, 9)
	refuses(t, keys+"!", len(keys), api.ErrSign)
	rules := strings.Repeat("a=;", 17)
	refuses(t, rules+"#", len(rules), api.ErrSign)
	refuses(t, "! !", 0, api.ErrSign)
}

// P6.1: texts of 3000 bytes and more, and of 600 tokens and more.
func TestTooLong(t *testing.T) {
	pad := func(many int) string { return "a=b;" + strings.Repeat(" ", many-4) }
	reads(t, pad(3000), file(rule("a", 0, call("b", 2))))
	refuses(t, pad(3001), 0, api.ErrSize)
	refuses(t, strings.Repeat(";", 3001), 0, api.ErrSize)
	refuses(t, strings.Repeat("!", 3001), 0, api.ErrSize)
	refuses(t, strings.Repeat(" ", 3001), 0, api.ErrSize)
	refuses(t, strings.Repeat("!", 1<<20), 0, api.ErrSize)
	most := "a=" + strings.Repeat("b ", 597) + ";"
	if f, at, e := read.File(most); e != api.OK || at != len(most) || len(f.R) != 1 || len(f.R[0].E.L) != 597 {
		t.Error(len(f.R), at, e)
	}
	refuses(t, most+" a", len(most)+1, api.ErrSize)
	refuses(t, most+";", len(most), api.ErrSize)
	refuses(t, strings.Repeat(";", 601), 600, api.ErrSize)
	refuses(t, strings.Repeat(";", 600), 0, api.ErrSyntax)
	refuses(t, "a="+strings.Repeat("(", 599), 600, api.ErrSize)
	refuses(t, "a="+strings.Repeat("(", 598), 14, api.ErrDeep)
}

// P6.2: of two errors in one text that of the first token is told, of whatever kind both are.
func TestFirstWrong(t *testing.T) {
	faults := []struct {
		s  string
		at int
		e  api.Errno
	}{
		{"a=;=", 3, api.ErrSyntax},
		{"a=**;", 2, api.ErrSyntax},
		{"a=" + strings.Repeat("(", 13) + ";", 14, api.ErrDeep},
		{"%" + strings.Repeat(`"k"`, 9) + ";", 25, api.ErrSize},
		{strings.Repeat("a=;", 17), 48, api.ErrSize},
	}
	for _, x := range faults {
		refuses(t, x.s, x.at, x.e)
		for _, y := range faults {
			refuses(t, x.s+y.s, x.at, x.e)
			refuses(t, x.s+" "+y.s, x.at, x.e)
		}
	}
	deep := strings.Repeat("(", 13)
	refuses(t, "a=b=;c="+deep, 3, api.ErrSyntax)
	refuses(t, "a="+deep+"=", 14, api.ErrDeep)
	refuses(t, strings.Repeat("a=;", 15)+"a="+deep, 45+14, api.ErrDeep)
	refuses(t, strings.Repeat("a=;", 16)+"a="+deep, 48, api.ErrSize)
	refuses(t, "%"+strings.Repeat(`"k"`, 8)+"="+`"k"`, 25, api.ErrSyntax)
}

// P6.2: of all short texts of tokens, what is ahead of the token that is told can go on to a file, and with it nothing can.
func TestFirstOfAll(t *testing.T) {
	var grow func(s string, left int)
	grow = func(s string, left int) {
		asOwn(t, s)
		for _, x := range everySign {
			next := s + " " + x
			toks, _, _ := token.All(next)
			switch {
			case !canGoOn(signsOf(toks)):
				for _, behind := range append([]string{""}, everySign...) {
					refuses(t, next+" "+behind, len(s)+1, api.ErrSyntax)
				}
			case left > 1:
				grow(next, left-1)
			default:
				asOwn(t, next)
			}
		}
	}
	grow("", 5)
	grow(" n = (", 3)
	grow(" n = n / [c]", 4)
	grow(` % "l"`, 4)
	grow(" n = ( n | ( ) ) +", 3)
}

// someAlt is an alt by chance, with brackets up to so many within one another.
func someAlt(r *rand.Rand, deep int) string {
	var out []string
	for range r.Intn(6) {
		switch x := r.Intn(8); {
		case x < 2:
			out = append(out, "|")
		case x < 4 && deep > 0:
			out = append(out, "("+someAlt(r, deep-1)+")")
		default:
			out = append(out, []string{"ab", `"c*"`, "[d-f]", "<0a-0bff>"}[r.Intn(4)])
		}
		if last := out[len(out)-1]; last != "|" && r.Intn(3) == 0 {
			out = append(out, "*+?"[r.Intn(3):][:1])
		}
	}
	return strings.Join(out, []string{"", " "}[r.Intn(2)])
}

// deepAlt is an alt by chance, within so many brackets.
func deepAlt(r *rand.Rand, deep int) string {
	s := someAlt(r, 1)
	for range deep {
		s = []string{"", "ab ", "|", "[d]*"}[r.Intn(4)] + "(" + s + ")" + []string{"", " ab", "|", "?"}[r.Intn(4)]
	}
	return s
}

// someFile is a file's text by chance.
func someFile(r *rand.Rand) string {
	var out strings.Builder
	if r.Intn(2) == 0 {
		out.WriteString("%" + strings.Repeat(` "k"`, 1+r.Intn(9)) + ";\n")
	}
	for range 1 + r.Intn(3)*r.Intn(9) {
		for range r.Intn(3) {
			out.WriteString([]string{"@long", "@res ", "@off", "@block", "@align ", "@sync"}[r.Intn(6)])
		}
		out.WriteString("ab=" + someAlt(r, 4))
		if r.Intn(8) == 0 {
			out.WriteString(deepAlt(r, r.Intn(14)))
		}
		if r.Intn(3) == 0 {
			out.WriteString(" / [^x]")
		}
		out.WriteString(";")
	}
	return out.String()
}

// worn is a text of which a token is left out, put in, or put instead of another one.
func worn(r *rand.Rand, s string) string {
	toks, _, e := token.All(s)
	if e != api.OK || len(toks) == 0 {
		return s
	}
	i := r.Intn(len(toks))
	from, upto := toks[i].At, len(s)
	if i+1 < len(toks) {
		upto = toks[i+1].At
	}
	other := everySign[r.Intn(len(everySign))]
	switch r.Intn(3) {
	case 0:
		return s[:from] + s[upto:]
	case 1:
		return s[:from] + other + " " + s[from:]
	}
	return s[:from] + other + " " + s[upto:]
}

// P6.1 and P6.2: long texts by chance, and what becomes of them where a token is wrong, or several are.
func TestSome(t *testing.T) {
	r := rand.New(rand.NewSource(6))
	var told [14]int
	for range 2000 {
		s := someFile(r)
		for range 3 {
			asOwn(t, s)
			_, _, e := read.File(s)
			told[e]++
			s = worn(r, s)
		}
	}
	for _, e := range []api.Errno{api.OK, api.ErrSyntax, api.ErrSize, api.ErrDeep} {
		if told[e] < 10 {
			t.Error("too seldom:", e, told[e])
		}
	}
}

// P1: any bytes are told to be a file, or one error, with a zero file and a place of the text.
func TestAnyBytes(t *testing.T) {
	r := rand.New(rand.NewSource(7))
	for range 20000 {
		b := make([]byte, r.Intn(12))
		for i := range b {
			b[i] = "ab=;|()*+?/%\"[]<>0-@ \\\xff\x00"[r.Intn(24)]
		}
		asOwn(t, string(b))
	}
	for c := range 256 {
		asOwn(t, string([]byte{byte(c)}))
		asOwn(t, "a="+string([]byte{byte(c)})+";")
	}
}

// R4: with an error the file is the zero one, whatever was read ahead of it.
func TestZeroWithError(t *testing.T) {
	for _, s := range []string{`%"k";a=b;=`, `%"k"`, "a=b;a=(", "a=b;!", "a=((((((((((((((", strings.Repeat("a=b;", 17), strings.Repeat(" ", 3001)} {
		if f, _, e := read.File(s); e == api.OK || !reflect.DeepEqual(f, api.File{}) {
			t.Errorf("File(%q) = %v, %d", s, f, e)
		}
	}
}

// R3, R5: what is answered is the caller's own, no two of its lists share memory, and it is the same again.
func TestOwn(t *testing.T) {
	s := `%"k""l"; @long a = b [c-d] ([e-f] | <01> | b b)* / [x-z]; b = [c-d] [c-d] | ; c = () / [x-z];`
	f, _, _ := read.File(s)
	g, _, _ := read.File(s)
	spoil(&f)
	if h, at, e := read.File(s); !alike(g, h) || at != len(s) || e != api.OK || alike(f, g) {
		t.Error("an answer is changed by what is done with another one")
	}
	want, _, _ := ownFile(s)
	f, _, _ = read.File(s)
	grown := grow(f)
	if !alike(f, want) || len(grown.R) != 4 {
		t.Error("an answer's lists share memory")
	}
	at := map[*api.Range]int{}
	for _, x := range f.R {
		setsAt(api.Part{R: x.Not, L: []api.Part{x.E}}, at)
	}
	for _, many := range at {
		if many > 1 {
			t.Error("two sets are one list")
		}
	}
}

// setsAt counts the lists of ranges of a part, by where they are in memory.
func setsAt(p api.Part, at map[*api.Range]int) {
	if len(p.R) > 0 {
		at[&p.R[0]]++
	}
	for _, x := range p.L {
		setsAt(x, at)
	}
}

// spoil changes all of a file.
func spoil(f *api.File) {
	for i := range f.Keys {
		f.Keys[i] = "spoilt"
	}
	for i := range f.R {
		f.R[i].Name = "spoilt"
		for j := range f.R[i].Not {
			f.R[i].Not[j].Lo = -1
		}
		spoilPart(&f.R[i].E)
	}
}

func spoilPart(p *api.Part) {
	p.Text, p.At = "spoilt", -1
	for i := range p.R {
		p.R[i].Lo = -1
	}
	for i := range p.L {
		spoilPart(&p.L[i])
	}
}

// grow puts something behind each list of a file, where there is room in it.
func grow(f api.File) api.File {
	out := api.File{Keys: append(f.Keys, "grown")}
	for _, x := range f.R {
		x.Not = append(x.Not, api.Range{Lo: -2, Hi: -2})
		growPart(x.E)
		out.R = append(out.R, x)
	}
	out.R = append(out.R, api.Rule{Name: "grown"})
	return out
}

func growPart(p api.Part) {
	_ = append(p.R, api.Range{Lo: -2, Hi: -2})
	_ = append(p.L, api.Part{Kind: -2})
	for _, x := range p.L {
		growPart(x)
	}
}

// sample is a new file with something of everything.
func sample() api.File {
	l := []api.Part{call("b", 1), of(api.Star, 2, text("x", 3)), of(api.Or, 4, set('a', 'c', 5), octets(1, 2, 6))}
	return api.File{Keys: []string{"k", "l"}, R: []api.Rule{
		{Name: "a", Marks: 5, E: api.Part{Kind: api.Seq, L: l, At: 7}, Not: []api.Range{{Lo: 1, Hi: 2}, {Lo: 4, Hi: 5}}, At: 8},
		{Name: "b", Marks: 0, E: call("a", 9), At: 10},
	}}
}

// P6.1: Same holds all against each other, in order, but for where things begin.
func TestSame(t *testing.T) {
	if !read.Same(sample(), sample()) || !read.Same(api.File{}, api.File{}) {
		t.Error("a file is not the same as itself")
	}
	moves := []func(f *api.File){
		func(f *api.File) { f.R[0].At = -1 },
		func(f *api.File) { f.R[1].At = math.MaxInt },
		func(f *api.File) { f.R[0].E.At++ },
		func(f *api.File) { f.R[0].E.L[1].L[0].At++ },
		func(f *api.File) { f.R[0].E.L[2].L[1].At = math.MinInt },
	}
	for i, move := range moves {
		f := sample()
		move(&f)
		if !read.Same(f, sample()) || !read.Same(sample(), f) || alike(f, sample()) {
			t.Error("where something begins is told:", i)
		}
	}
	changes := []func(f *api.File){
		func(f *api.File) { f.Keys = nil },
		func(f *api.File) { f.Keys = f.Keys[:1] },
		func(f *api.File) { f.Keys = append(f.Keys, "") },
		func(f *api.File) { slices.Reverse(f.Keys) },
		func(f *api.File) { f.Keys[1] = "k" },
		func(f *api.File) { f.R = nil },
		func(f *api.File) { f.R = f.R[:1] },
		func(f *api.File) { f.R = append(f.R, api.Rule{}) },
		func(f *api.File) { slices.Reverse(f.R) },
		func(f *api.File) { f.R[0].Name = "b" },
		func(f *api.File) { f.R[1].Name = "" },
		func(f *api.File) { f.R[0].Marks = 4 },
		func(f *api.File) { f.R[1].Marks = 64 },
		func(f *api.File) { f.R[0].Not = nil },
		func(f *api.File) { f.R[0].Not[1].Hi++ },
		func(f *api.File) { slices.Reverse(f.R[0].Not) },
		func(f *api.File) { f.R[1].Not = []api.Range{{}} },
		func(f *api.File) { f.R[0].E.Kind = api.Or },
		func(f *api.File) { f.R[0].E.Text = "x" },
		func(f *api.File) { f.R[0].E.R = []api.Range{{}} },
		func(f *api.File) { f.R[0].E.L = f.R[0].E.L[:2] },
		func(f *api.File) { f.R[0].E.L = append(f.R[0].E.L, api.Part{}) },
		func(f *api.File) { slices.Reverse(f.R[0].E.L) },
		func(f *api.File) { f.R[0].E.L[0].Kind = api.Text },
		func(f *api.File) { f.R[0].E.L[1].Kind = api.Plus },
		func(f *api.File) { f.R[0].E.L[1].L[0].Text = "y" },
		func(f *api.File) { f.R[0].E.L[1].L = nil },
		func(f *api.File) { f.R[0].E.L[2].L[0].R[0].Lo-- },
		func(f *api.File) { f.R[0].E.L[2].L[1].R[0].Hi-- },
		func(f *api.File) { slices.Reverse(f.R[0].E.L[2].L) },
		func(f *api.File) { f.R[1].E.L = []api.Part{{}} },
	}
	for i, change := range changes {
		f := sample()
		change(&f)
		if read.Same(f, sample()) || read.Same(sample(), f) || !read.Same(f, f) {
			t.Error("a change is not told:", i)
		}
	}
}

// R1, R6: Same may be asked of lists that are nil or empty, of kinds and marks that are none, and of parts deep within one another.
func TestSameOfAll(t *testing.T) {
	empty := api.File{Keys: []string{}, R: []api.Rule{}}
	if !read.Same(empty, api.File{}) || !read.Same(api.File{}, empty) {
		t.Error("an empty list is not as none")
	}
	a := file(api.Rule{E: api.Part{R: []api.Range{}, L: []api.Part{}}, Not: []api.Range{}})
	if !read.Same(a, file(api.Rule{})) || !read.Same(file(api.Rule{}), a) {
		t.Error("an empty list is not as none")
	}
	wild := file(api.Rule{Name: "\xff", Marks: math.MinInt, E: api.Part{Kind: -7, Text: "\x00", R: []api.Range{{Lo: math.MaxInt, Hi: math.MinInt}}}})
	if !read.Same(wild, wild) || read.Same(wild, file(api.Rule{})) {
		t.Error("a wild file")
	}
	deep := func(last string) api.File {
		p := call(last, 0)
		for range 1 << 16 {
			p = of(api.Opt, 0, p)
		}
		return file(rule("a", 0, p))
	}
	if !read.Same(deep("b"), deep("b")) || read.Same(deep("b"), deep("c")) {
		t.Error("a deep file")
	}
}

// P6.1: texts that differ in blanks alone are read as the same file; others are not.
func TestSameRead(t *testing.T) {
	texts := []string{"a=;", "a=b;", "a=b|;", "a=b b;", "a=b*;", "a=b+;", "a=b?;", `a="b";`, "a=[b];", "a=<0b>;", "a=(b c) d;", "a=b (c d);", "a=b c d;", "@long a=b;", "@res a=b;", "a=b/[c];", "a=b/[d];", `%"k";a=b;`, `%"l";a=b;`, `%"k""l";a=b;`, `%"l""k";a=b;`, "a=b;b=a;", "b=a;a=b;"}
	for i, x := range texts {
		f, _, e := read.File(x)
		toks, _, _ := token.All(x)
		var spread []string
		for _, tok := range toks {
			spread = append(spread, token.Text(tok))
		}
		if g, _, _ := read.File("\n" + strings.Join(spread, "\t ") + "\r"); e != api.OK || !read.Same(f, g) {
			t.Errorf("%q is another file with blanks", x)
		}
		for j, y := range texts {
			if g, _, _ := read.File(y); read.Same(f, g) != (i == j) {
				t.Error("Same of", fmt.Sprintf("%q and %q", x, y))
			}
		}
	}
	for _, pair := range [][2]string{{"a=(b);", "a=b;"}, {"a=((b)|((c)));", "a=b|c;"}, {"a=();", "a=;"}, {"@long@res a=;", "@res@long@res a=;"}, {"a=b/[];", "a=b;"}, {"a=[a-c];", "a=[c-cab];"}} {
		f, _, _ := read.File(pair[0])
		if g, _, e := read.File(pair[1]); e != api.OK || !read.Same(f, g) {
			t.Errorf("%q and %q are not the same", pair[0], pair[1])
		}
	}
}
