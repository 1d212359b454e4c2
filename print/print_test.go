package print_test

import (
	"fmt"
	"math"
	"math/rand"
	"reflect"
	"slices"
	"strings"
	"testing"

	"exegete/api"
	"exegete/print"
	"exegete/read"
	"exegete/token"
)

// The calls have the signatures of the chapter.
var (
	_ func(f api.File) bool   = print.May
	_ func(f api.File) string = print.File
	_ func(p api.Part) string = print.Part
)

func call(name string) api.Part {
	return api.Part{Kind: api.Call, Text: name}
}

func text(s string) api.Part {
	return api.Part{Kind: api.Text, Text: s}
}

func set(n ...int) api.Part {
	return api.Part{Kind: api.Set, R: pairs(n...)}
}

func octets(n ...int) api.Part {
	return api.Part{Kind: api.Octs, R: pairs(n...)}
}

// pairs is ranges, from every first number to the one behind it.
func pairs(n ...int) []api.Range {
	var l []api.Range
	for i := 0; i+1 < len(n); i += 2 {
		l = append(l, api.Range{Lo: n[i], Hi: n[i+1]})
	}
	return l
}

func of(kind int, l ...api.Part) api.Part {
	return api.Part{Kind: kind, L: l}
}

func seq(l ...api.Part) api.Part  { return of(api.Seq, l...) }
func or(l ...api.Part) api.Part   { return of(api.Or, l...) }
func star(l ...api.Part) api.Part { return of(api.Star, l...) }
func plus(l ...api.Part) api.Part { return of(api.Plus, l...) }
func opt(l ...api.Part) api.Part  { return of(api.Opt, l...) }

func rule(name string, e api.Part) api.Rule {
	return api.Rule{Name: name, E: e}
}

func file(l ...api.Rule) api.File {
	return api.File{R: l}
}

// short is a thing's beginning, so that a failure can be read.
func short(x any) string {
	s := fmt.Sprintf("%+q", fmt.Sprintf("%+v", x))
	return s[:min(len(s), 400)]
}

// writes fails the test if Part tells another text.
func writes(t *testing.T, p api.Part, want string) {
	t.Helper()
	if got := print.Part(p); got != want {
		t.Errorf("Part(%s) = %s; want %s", short(p), short(got), short(want))
	}
}

// prints fails the test if the file may not be, or has another text, or that is not read as the file, or printed as another one.
func prints(t *testing.T, f api.File, want string) {
	t.Helper()
	if may, got := print.May(f), print.File(f); !may || got != want {
		t.Errorf("of %s: %v, %s; want true, %s", short(f), may, short(got), short(want))
	}
	again, _, e := read.File(want)
	if e != api.OK || !read.Same(f, again) {
		t.Errorf("%s is read as %s, %d; want %s", short(want), short(again), e, short(f))
	}
	if got := print.File(again); got != want {
		t.Errorf("printed again: %s; want %s", short(got), short(want))
	}
}

// refuses fails the test if the file may be, or has a text.
func refuses(t *testing.T, f api.File) {
	t.Helper()
	if may, got := print.May(f), print.File(f); may || got != "" {
		t.Errorf("of %s: %v, %s; want false, nothing", short(f), may, short(got))
	}
}

// is fails the test if a part has another text, or the file of it may not be.
func is(t *testing.T, p api.Part, want string) {
	t.Helper()
	writes(t, p, want)
	prints(t, file(rule("x", p)), "x = "+want+";\n")
}

// isNone fails the test if a part has another text, or the file of it may be.
func isNone(t *testing.T, p api.Part, want string) {
	t.Helper()
	writes(t, p, want)
	refuses(t, file(rule("x", p)))
}

// asOwn fails the test if anything is told but what the other reckoning does.
func asOwn(t *testing.T, f api.File) {
	want, may := "", ownMay(f)
	if may {
		want = ownFile(f)
	}
	if gotMay, got := print.May(f), print.File(f); gotMay != may || got != want {
		t.Helper()
		t.Fatalf("of %s: %v, %s; want %v, %s", short(f), gotMay, short(got), may, short(want))
	}
}

// P7.1: the example, as a part, as a file, and as what is read of it.
func TestExample(t *testing.T) {
	is(t, or(seq(call("a"), call("b")), star(call("c"))), "a b | c*")
	f, _, _ := read.File("x=(a b)|c*;")
	prints(t, f, "x = a b | c*;\n")
}

// P7.1: a Call, a Text, a Set and Octs, each alone, and in a Seq, an Or, a Star, a Plus and an Opt.
func TestTokens(t *testing.T) {
	for _, x := range []struct {
		p    api.Part
		want string
	}{
		{call("a"), "a"}, {call("a_9"), "a_9"}, {call("abcdefghijkl"), "abcdefghijkl"}, {call("long"), "long"},
		{text("a"), `"a"`}, {text("|"), `"|"`}, {text("a \"\\\x00\xff~\x7f"), `"a \x22\x5c\x00\xff~\x7f"`}, {text("\n"), `"\x0a"`},
		{set(), "[]"}, {set('a', 'a'), "[a]"}, {set('a', 'z'), "[a-z]"}, {set(0, 31, '[', '^', 228, 228, 1114111, 1114111), `[\u0;-\u1f;\u5b;-\u5e;\ue4;\u10ffff;]`},
		{octets(), "<>"}, {octets(0, 0), "<00>"}, {octets(10, 12, 255, 255), "<0a-0cff>"},
	} {
		is(t, x.p, x.want)
		is(t, seq(x.p, x.p), x.want+" "+x.want)
		is(t, or(x.p, x.p), x.want+" | "+x.want)
		is(t, star(x.p), x.want+"*")
		is(t, plus(x.p), x.want+"+")
		is(t, opt(x.p), x.want+"?")
		is(t, seq(x.p, star(x.p), or(x.p, plus(x.p)), opt(x.p)), fmt.Sprintf("%[1]s %[1]s* (%[1]s | %[1]s+) %[1]s?", x.want))
	}
	is(t, seq(call("a"), text("b"), set('c', 'c'), octets(13, 13)), `a "b" [c] <0d>`)
	is(t, or(call("a"), text("b"), set('c', 'c'), octets(13, 13)), `a | "b" | [c] | <0d>`)
}

// P7.1: a Seq and an Or of no part, of one and of several, alone and in one another.
func TestSeqsAndOrs(t *testing.T) {
	a, b, c := call("a"), call("b"), call("c")
	is(t, seq(), "")
	isNone(t, seq(a), "a")
	is(t, seq(a, b), "a b")
	is(t, seq(a, b, c), "a b c")
	isNone(t, or(), "")
	isNone(t, or(a), "a")
	is(t, or(a, b), "a | b")
	is(t, or(a, b, c), "a | b | c")
	is(t, seq(seq(), seq()), "() ()")
	is(t, seq(a, seq(b, c)), "a (b c)")
	is(t, seq(seq(a, b), c), "(a b) c")
	isNone(t, seq(a, seq(b)), "a (b)")
	is(t, seq(a, or(b, c)), "a (b | c)")
	is(t, seq(or(a, b), or(b, c)), "(a | b) (b | c)")
	isNone(t, seq(a, or(b)), "a (b)")
	isNone(t, seq(a, or()), "a ()")
	is(t, or(seq(a, b), c), "a b | c")
	is(t, or(a, seq(b, c)), "a | b c")
	is(t, or(seq(), seq()), " | ")
	is(t, or(a, seq(), b), "a |  | b")
	is(t, or(a, seq()), "a | ")
	is(t, or(seq(), a), " | a")
	isNone(t, or(a, seq(b)), "a | b")
	is(t, or(or(a, b), c), "(a | b) | c")
	is(t, or(a, or(b, c)), "a | (b | c)")
	isNone(t, or(a, or(b)), "a | (b)")
	isNone(t, or(a, or()), "a | ()")
	isNone(t, or(or(a, b)), "(a | b)")
	isNone(t, seq(seq(a, b)), "(a b)")
}

// P7.1: a Star, a Plus and an Opt of each kind, in each kind, of no part and of several.
func TestOften(t *testing.T) {
	a, b := call("a"), call("b")
	kinds := map[int]string{api.Star: "*", api.Plus: "+", api.Opt: "?"}
	for kind, sign := range kinds {
		is(t, of(kind, a), "a"+sign)
		is(t, of(kind, seq()), "()"+sign)
		is(t, of(kind, seq(a, b)), "(a b)"+sign)
		isNone(t, of(kind, seq(a)), "(a)"+sign)
		is(t, of(kind, or(a, b)), "(a | b)"+sign)
		isNone(t, of(kind, or(a)), "(a)"+sign)
		is(t, seq(of(kind, a), of(kind, b)), "a"+sign+" b"+sign)
		is(t, or(of(kind, a), of(kind, b)), "a"+sign+" | b"+sign)
		is(t, seq(a, of(kind, seq(a, b)), or(of(kind, a), b)), "a (a b)"+sign+" (a"+sign+" | b)")
		isNone(t, seq(of(kind, a)), "a"+sign)
		isNone(t, of(kind), sign)
		isNone(t, seq(a, of(kind)), "a "+sign)
		isNone(t, or(a, of(kind)), "a | "+sign)
		isNone(t, of(kind, a, b), "ab"+sign)
		isNone(t, of(kind, text("a"), seq(a, b), text("b")), `"a"(a b)"b"`+sign)
		isNone(t, seq(a, of(kind, a, b), b), "a ab"+sign+" b")
		for inner, within := range kinds {
			is(t, of(kind, of(inner, a)), "(a"+within+")"+sign)
			is(t, of(kind, of(inner, or(a, b))), "((a | b)"+within+")"+sign)
			is(t, of(kind, of(inner, of(kind, seq()))), "((()"+sign+")"+within+")"+sign)
			isNone(t, of(kind, of(inner)), "("+within+")"+sign)
		}
	}
}

// P7.1: parts within one another, six deep and more, up to 12 brackets, and 13.
func TestDeep(t *testing.T) {
	a, b := call("a"), call("b")
	is(t, or(seq(star(or(seq(plus(a), b), opt(b))), a), b), "(a+ b | b?)* a | b")
	is(t, star(plus(opt(star(plus(opt(a)))))), "(((((a?)+)*)?)+)*")
	is(t, seq(a, seq(a, seq(a, seq(a, seq(a, seq(a, b)))))), "a (a (a (a (a (a b)))))")
	is(t, or(or(or(or(or(or(a, b), b), b), b), b), b), "(((((a | b) | b) | b) | b) | b) | b")
	is(t, or(a, seq(or(a, seq(or(a, seq(or(a, b), b)), b)), b)), "a | (a | (a | (a | b) b) b) b")
	for _, kind := range []int{api.Seq, api.Or, api.Star, api.Plus, api.Opt} {
		p := of(kind, a)
		if kind == api.Seq || kind == api.Or {
			p = of(kind, a, b)
		}
		for many := range 40 {
			f := file(rule("x", p))
			if many <= 12 {
				prints(t, f, ownFile(f))
			} else {
				refuses(t, f)
			}
			writes(t, p, ownPart(p))
			if kind == api.Seq || kind == api.Or {
				p = of(kind, p, b)
			} else {
				p = of(kind, p)
			}
		}
	}
}

// P7.1: no keys, one, several, of all bytes, eight and nine, and such as may not be.
func TestKeys(t *testing.T) {
	r := []api.Rule{rule("x", call("a"))}
	prints(t, api.File{Keys: []string{}, R: r}, "x = a;\n")
	prints(t, api.File{Keys: []string{"if"}, R: r}, "% \"if\";\nx = a;\n")
	prints(t, api.File{Keys: []string{"if", "if", "\x00\"\\\xff"}, R: r}, "% \"if\" \"if\" \"\\x00\\x22\\x5c\\xff\";\nx = a;\n")
	all := make([]byte, 256)
	for i := range all {
		all[i] = byte(i)
		f := api.File{Keys: []string{string(all[i : i+1]), "a"}, R: r}
		prints(t, f, ownFile(f))
	}
	f := api.File{Keys: []string{string(all)}, R: r}
	prints(t, f, ownFile(f))
	keys := []string{"a", "b", "c", "d", "e", "f", "g", "h", "i"}
	for many := range keys {
		f := api.File{Keys: keys[:many], R: r}
		prints(t, f, ownFile(f))
	}
	refuses(t, api.File{Keys: keys, R: r})
	refuses(t, api.File{Keys: []string{""}, R: r})
	refuses(t, api.File{Keys: []string{"a", "", "b"}, R: r})
	refuses(t, api.File{Keys: []string{strings.Repeat("a", 2999)}, R: r})
	refuses(t, api.File{Keys: []string{"a"}})
}

// P7.1: each mark, none, all, each set of them, and bits above Sync and below 0.
func TestMarks(t *testing.T) {
	marked := func(marks int) api.File {
		return file(api.Rule{Name: "x", Marks: marks, E: call("a")}, rule("y", seq()))
	}
	prints(t, marked(0), "x = a;\ny = ;\n")
	prints(t, marked(api.Long), "@long x = a;\ny = ;\n")
	prints(t, marked(api.Res), "@res x = a;\ny = ;\n")
	prints(t, marked(api.Off), "@off x = a;\ny = ;\n")
	prints(t, marked(api.Block), "@block x = a;\ny = ;\n")
	prints(t, marked(api.Align), "@align x = a;\ny = ;\n")
	prints(t, marked(api.Sync), "@sync x = a;\ny = ;\n")
	prints(t, marked(63), "@long @res @off @block @align @sync x = a;\ny = ;\n")
	for marks := range 64 {
		prints(t, marked(marks), ownFile(marked(marks)))
		for _, bit := range []int{64, 128, 1 << 30, math.MinInt, ^63} {
			refuses(t, marked(marks|bit))
		}
	}
	for _, marks := range []int{-1, -2, -64, math.MaxInt, math.MinInt} {
		refuses(t, marked(marks))
	}
}

// P7.1: what may not follow: nothing, an empty set, one and several scalars, and sets that may not be.
func TestNot(t *testing.T) {
	not := func(l []api.Range) api.File {
		return file(api.Rule{Name: "x", E: call("a"), Not: l}, api.Rule{Name: "y", E: or(call("a"), seq()), Not: l})
	}
	prints(t, not(nil), "x = a;\ny = a | ;\n")
	prints(t, not([]api.Range{}), "x = a;\ny = a | ;\n")
	prints(t, not(pairs('a', 'a')), "x = a / [a];\ny = a |  / [a];\n")
	prints(t, not(pairs('a', 'z', 0x10ffff, 0x10ffff)), "x = a / [a-z\\u10ffff;];\ny = a |  / [a-z\\u10ffff;];\n")
	prints(t, not(pairs(0, 55295, 57344, 1114111)), "x = a / [\\u0;-\\ud7ff;\\ue000;-\\u10ffff;];\ny = a |  / [\\u0;-\\ud7ff;\\ue000;-\\u10ffff;];\n")
	for _, l := range [][]api.Range{pairs('b', 'a'), pairs('a', 'b', 'c', 'd'), pairs('c', 'd', 'a', 'a'), pairs(0, 1114111), pairs(55296, 55296), pairs(-1, 5), pairs(5, 1114112), pairs('a', 'a', 'a', 'a')} {
		refuses(t, not(l))
	}
}

// P7.1: from one rule to sixteen, seventeen, and none; the same name twice; names that are none.
func TestRules(t *testing.T) {
	refuses(t, api.File{})
	refuses(t, api.File{Keys: []string{}, R: []api.Rule{}})
	var f api.File
	want := ""
	for i := range 16 {
		name := fmt.Sprint("r", i)
		f.R = append(f.R, rule(name, star(call(name))))
		want += name + " = " + name + "*;\n"
		prints(t, f, want)
	}
	refuses(t, file(append(f.R, rule("r", call("a")))...))
	prints(t, file(rule("a", seq()), rule("a", seq())), "a = ;\na = ;\n")
	prints(t, file(rule("abcdefghijkl", seq())), "abcdefghijkl = ;\n")
	for _, name := range []string{"", "1", "A", "abcdefghijklm", "a b", " a", "a ", "@long a", "a=b;c", "a = ;\nb", "\x00", "ä", "%\"k\";a", "_", "\"a\"", strings.Repeat("a", 4000)} {
		refuses(t, file(rule(name, seq())))
		refuses(t, file(rule("x", seq()), rule(name, seq())))
	}
}

// P7.1: a file with all there is.
func TestWhole(t *testing.T) {
	f := api.File{Keys: []string{"if", "do"}, R: []api.Rule{
		{Name: "x", Marks: api.Sync | api.Long, E: plus(seq(or(call("a"), text("b")), call("y"))), Not: pairs('a', 'a', 'c', 'e'), At: 77},
		{Name: "y", E: or(seq(octets(0, 31), opt(set('x', 'z'))), seq()), At: -3},
	}}
	prints(t, f, "% \"if\" \"do\";\n@long @sync x = ((a | \"b\") y)+ / [ac-e];\ny = <00-1f> [x-z]? | ;\n")
}

// P7.1: a part of a kind that is none is nothing, whatever it has, and wrapped but in an Or.
func TestNoKind(t *testing.T) {
	a := call("a")
	for _, kind := range []int{-1, 9, 10, 255, 256, math.MaxInt, math.MinInt} {
		p := api.Part{Kind: kind, Text: "b", R: pairs('a', 'a'), L: []api.Part{a, a}}
		isNone(t, p, "")
		isNone(t, of(kind), "")
		isNone(t, seq(p, a), "() a")
		isNone(t, seq(p), "()")
		isNone(t, or(p, a), " | a")
		isNone(t, or(a, p, p), "a |  | ")
		isNone(t, star(p), "()*")
		isNone(t, plus(p), "()+")
		isNone(t, opt(p), "()?")
		isNone(t, opt(p, p), "()()?")
	}
}

// P7.1: parts that are not zero where they must be have the text of the others, and may not be.
func TestNotZero(t *testing.T) {
	a, r := call("a"), pairs('a', 'b')
	isNone(t, api.Part{Kind: api.Call, Text: "a", R: r}, "a")
	isNone(t, api.Part{Kind: api.Call, Text: "a", L: []api.Part{a}}, "a")
	isNone(t, api.Part{Kind: api.Text, Text: "a", R: r}, `"a"`)
	isNone(t, api.Part{Kind: api.Text, Text: "a", L: []api.Part{a}}, `"a"`)
	isNone(t, api.Part{Kind: api.Set, Text: "a", R: r}, "[a-b]")
	isNone(t, api.Part{Kind: api.Set, R: r, L: []api.Part{a}}, "[a-b]")
	isNone(t, api.Part{Kind: api.Octs, Text: "a", R: r}, "<61-62>")
	isNone(t, api.Part{Kind: api.Octs, R: r, L: []api.Part{a}}, "<61-62>")
	for _, x := range []struct {
		p    api.Part
		want string
	}{{seq(), ""}, {seq(a, a), "a a"}, {or(a, a), "a | a"}, {star(a), "a*"}, {plus(a), "a+"}, {opt(a), "a?"}} {
		is(t, x.p, x.want)
		p, q := x.p, x.p
		p.Text, q.R = "b", r
		isNone(t, p, x.want)
		isNone(t, q, x.want)
		isNone(t, or(a, p), "a | "+ownWithin(api.Or, x.p))
		isNone(t, star(q), ownWithin(api.Star, x.p)+"*")
	}
	// Lists without elements are as none.
	is(t, api.Part{Kind: api.Call, Text: "a", R: []api.Range{}, L: []api.Part{}}, "a")
	is(t, api.Part{Kind: api.Set, R: []api.Range{}, L: []api.Part{}}, "[]")
	is(t, api.Part{Kind: api.Seq, R: []api.Range{}, L: []api.Part{}}, "")
}

// P7.1: where things begin changes nothing.
func TestPlaces(t *testing.T) {
	p := api.Part{Kind: api.Star, L: []api.Part{{Text: "a", At: math.MinInt}}, At: math.MaxInt}
	is(t, p, "a*")
	prints(t, file(api.Rule{Name: "x", E: p, At: -1}), "x = a*;\n")
}

// P7.1: tokens that may not be have no text, and no file of them may be.
func TestNoTokens(t *testing.T) {
	a := call("a")
	for _, p := range []api.Part{
		call(""), call("abcdefghijklm"), call("1"), call("A"), call("a b"), call("ä"), call("("), call(" a"), call("a|b"), call("a;b=a"),
		text(""), text(strings.Repeat("a", 2999)), text(strings.Repeat("\x00", 750)),
		set('b', 'a'), set('a', 'b', 'c', 'd'), set('c', 'd', 'a', 'a'), set(-1, 3), set(55296, 55296), set(0, 1114111), set(1114112, 1114112),
		octets('b', 'a'), octets(1, 2, 3, 4), octets(256, 256), octets(0, 256), octets(-1, 1), octets(5, 5, 1, 1),
		{Kind: api.Set, R: make([]api.Range, 4000)}, {Kind: api.Octs, R: make([]api.Range, 4000)},
	} {
		isNone(t, p, "")
		isNone(t, seq(p, a), " a")
		isNone(t, seq(a, p, a), "a  a")
		isNone(t, or(p, a), " | a")
		isNone(t, or(a, p), "a | ")
		isNone(t, star(p), "*")
		isNone(t, plus(seq(a, p)), "(a )+")
		isNone(t, opt(p, a), "a?")
	}
	writes(t, text(strings.Repeat("a", 2998)), `"`+strings.Repeat("a", 2998)+`"`)
}

// P7.1: texts of 3000 bytes and of one more; longer ones have a text as parts.
func TestLong(t *testing.T) {
	for more := -3; more <= 3; more++ {
		head := "x = \"\";\n"
		long := strings.Repeat("a", 3000-len(head)+more)
		f := file(rule("x", text(long)))
		if more <= 0 {
			prints(t, f, "x = \""+long+"\";\n")
		} else {
			refuses(t, f)
		}
		writes(t, f.R[0].E, `"`+long+`"`)
	}
	half := text(strings.Repeat("b", 1600))
	isNone(t, seq(half, half), strings.Repeat(` "`+half.Text+`"`, 2)[1:])
	key := strings.Repeat("k", 2000)
	refuses(t, api.File{Keys: []string{key}, R: []api.Rule{rule("x", half)}})
	prints(t, file(rule("x", half)), "x = \""+half.Text+"\";\n")
	many := slices.Repeat([]api.Part{text("\xff\xff\xff")}, 5000)
	writes(t, or(many...), strings.Repeat(` | "\xff\xff\xff"`, 5000)[3:])
}

// P7.1: texts of 600 tokens and of one more.
func TestTokensMany(t *testing.T) {
	for many := 590; many <= 610; many++ {
		l := slices.Repeat([]api.Part{call("a")}, many)
		f := file(rule("x", seq(l...)))
		if many+3 <= 600 {
			prints(t, f, "x = "+strings.Repeat(" a", many)[1:]+";\n")
		} else {
			refuses(t, f)
		}
	}
	l := slices.Repeat([]api.Part{star(call("a"))}, 298)
	prints(t, file(rule("x", seq(l...))), "x = "+strings.Repeat(" a*", 298)[1:]+";\n")
	refuses(t, file(rule("x", seq(append(l, star(call("a")))...))))
}

// smallParts is all parts of that many parts, themselves among them, of those leaves and kinds.
func smallParts(many int, leaves []api.Part, kinds []int) [][]api.Part {
	bySize := [][]api.Part{nil}
	var lists func(left int) [][]api.Part
	lists = func(left int) [][]api.Part {
		if left == 0 {
			return [][]api.Part{nil}
		}
		var out [][]api.Part
		for first := 1; first <= left; first++ {
			for _, rest := range lists(left - first) {
				for _, p := range bySize[first] {
					out = append(out, append([]api.Part{p}, rest...))
				}
			}
		}
		return out
	}
	for size := 1; size <= many; size++ {
		var l []api.Part
		if size == 1 {
			l = append(l, leaves...)
		}
		for _, kind := range kinds {
			for _, parts := range lists(size - 1) {
				l = append(l, of(kind, parts...))
			}
		}
		bySize = append(bySize, l)
	}
	return bySize
}

// P7.1: all small parts, of all kinds and of none, are as the other reckoning says.
func TestSmallParts(t *testing.T) {
	try := func(leaves []api.Part, kinds []int, many int) (may int) {
		for _, l := range smallParts(many, leaves, kinds) {
			for _, p := range l {
				if got, want := print.Part(p), ownPart(p); got != want {
					t.Fatalf("Part(%s) = %q; want %q", short(p), got, want)
				}
				f := file(rule("x", p))
				asOwn(t, f)
				if print.May(f) {
					may++
				}
			}
		}
		return may
	}
	leaves := []api.Part{call("a"), text("b"), set(), octets(0, 1), call(""), text(""), set(9, 8), octets(256, 256), {Kind: 9}, {Kind: api.Set, Text: "a"}}
	if n := try(leaves, []int{api.Seq, api.Or, api.Star, api.Plus, api.Opt, -1}, 3); n < 100 {
		t.Error("few of them may be:", n)
	}
	if n := try([]api.Part{call("a"), {Kind: 9}}, []int{api.Seq, api.Or, api.Star, api.Opt}, 5); n < 500 {
		t.Error("few of them may be:", n)
	}
	if n := try([]api.Part{call("a")}, []int{api.Seq, api.Or, api.Plus}, 6); n < 500 {
		t.Error("few of them may be:", n)
	}
}

// again fails the test if what is read of s is not printed as P7.2 says; it tells whether s is read, and whether it may be.
func again(t *testing.T, s string) (bool, bool) {
	f, _, e := read.File(s)
	if e != api.OK {
		return false, false
	}
	want := ownFile(f)
	if len(want) > 3000 {
		refuses(t, f)
		return true, false
	}
	prints(t, f, want)
	if toks, _, _ := token.All(s); len(want) > 0 {
		printed, _, _ := token.All(want)
		if len(printed) > len(toks) || brackets(printed) > brackets(toks) {
			t.Errorf("%s has more tokens, or brackets, than %s", short(want), short(s))
		}
	}
	return true, true
}

// P7.2: files that are read, printed and read again.
func TestAgain(t *testing.T) {
	for _, s := range []string{
		"a=;", "a=b;", "a=|;", "a=||b;", "a=();", "a=(());", "a=()()*;", "a=(b);", "a=((b c));", "a=(b)c;", "a=(b*)c;", "a=(b*)*;", "a=(b|c)|d;", "a=(b|c)d|(e);",
		"a=b/[];", "a=b/[^];", "a=b/[^a-z];", "a=/[c];", "a=|/[c];", "@sync@long@sync a=;", "%\"k\"\"\\x41\";a=\"\\x41\";", " a =\n[b\\u62;c-e] <0001ff> ; ",
		"a=((((((((((((b c) c) c) c) c) c) c) c) c) c) c) c) c;", "a=((((((((((((b))))))))))))*;", "a=b;a=b;",
		"a=" + strings.Repeat("b ", 597) + ";",
	} {
		if is, may := again(t, s); !is || !may {
			t.Errorf("%s: %v, %v", short(s), is, may)
		}
	}
}

// P7.2: a Class of no scalars behind / is as none.
func TestEmptyNot(t *testing.T) {
	for _, s := range []string{"x=a/[];", "x=a / [];", "x=a/[^\\u0;-\\u10ffff;];"} {
		f, _, e := read.File(s)
		if e != api.OK {
			t.Fatal(s, e)
		}
		prints(t, f, "x = a;\n")
	}
}

// P7.2: what is printed may be too long to be read, of sets, and of blanks; then it may not be.
func TestTooLong(t *testing.T) {
	for _, x := range []struct {
		s   string
		may bool
	}{
		{"x=" + strings.Repeat("[^]", 93) + ";", true}, {"x=" + strings.Repeat("[^]", 94) + ";", false}, {"x=a/[ä\x7f];", true},
		{"x=" + strings.Repeat("[ä]", 300) + ";", true}, {"x=" + strings.Repeat("[äöüßéè]", 100) + ";", false},
		{"x=" + strings.Repeat(`"abcdefgh"`, 272) + ";", true}, {"x=" + strings.Repeat(`"abcdefgh"`, 273) + ";", false},
		{"x=" + strings.Repeat(`"abcdefgh"`, 299) + ";", false}, {`x="` + strings.Repeat("a", 2995) + `";`, false}, {`x="` + strings.Repeat("a", 2992) + `";`, true},
	} {
		if is, may := again(t, x.s); !is || may != x.may {
			t.Errorf("%s: %v, %v; want true, %v", short(x.s), is, may, x.may)
		}
	}
}

// P7.2: all short texts of tokens.
func TestAllShort(t *testing.T) {
	signs := []string{"b", "(", ")", "|", "*", ";x="}
	var all func(s string, left int) int
	all = func(s string, left int) int {
		many := 0
		if is, may := again(t, "x="+s+";"); is && may {
			many++
		}
		if left > 0 {
			for _, sign := range signs {
				many += all(s+" "+sign, left-1)
			}
		}
		return many
	}
	if many := all("", 6); many < 1000 {
		t.Error("few of them are read:", many)
	}
}

// randomPart is some part, at most so deep; worn is how often, of a hundred, something is wrong with it.
func randomPart(r *rand.Rand, deep, worn int) api.Part {
	kind := r.Intn(9)
	if deep == 0 {
		kind = r.Intn(4)
	}
	p := api.Part{Kind: kind, At: r.Intn(99)}
	switch kind {
	case api.Call:
		p.Text = []string{"a", "b0", "long", "abcdefghijkl"}[r.Intn(4)]
	case api.Text:
		p.Text = string([]byte{byte(r.Intn(256)), byte(r.Intn(256))}[r.Intn(2):])
	case api.Set:
		p.R = [][]api.Range{nil, pairs('a', 'z'), pairs(0, 0, 228, 300), pairs('^', '^')}[r.Intn(4)]
	case api.Octs:
		p.R = [][]api.Range{{}, pairs(0, 255), pairs(1, 1, 9, 10)}[r.Intn(3)]
	case api.Seq, api.Or:
		many := 2 + r.Intn(4)
		if kind == api.Seq && r.Intn(4) == 0 {
			many = 0
		}
		for range many {
			p.L = append(p.L, randomPart(r, deep-1, worn))
		}
	default:
		p.L = []api.Part{randomPart(r, deep-1, worn)}
	}
	if r.Intn(100) < worn {
		wear(r, &p)
	}
	return p
}

// wear makes something of a part wrong, perhaps.
func wear(r *rand.Rand, p *api.Part) {
	switch r.Intn(5) {
	case 0:
		p.Kind = r.Intn(12) - 1
	case 1:
		p.Text += string([]byte{"a 1\""[r.Intn(4)]})
	case 2:
		p.R = append(slices.Clone(p.R), api.Range{Lo: r.Intn(300), Hi: r.Intn(300)})
	case 3:
		p.L = append(p.L, call("a"))
	case 4:
		p.L = p.L[:len(p.L)/2]
	}
}

// P7.1: many files, long ones, and with something wrong, are as the other reckoning says.
func TestRandom(t *testing.T) {
	r := rand.New(rand.NewSource(7))
	may, not := 0, 0
	for i := range 2000 {
		var f api.File
		worn := i % 3
		for range r.Intn(10) * r.Intn(2) {
			f.Keys = append(f.Keys, string([]byte{byte(r.Intn(256)), byte(r.Intn(256))}))
		}
		for range 1 + r.Intn(4) + r.Intn(2)*r.Intn(16) {
			x := rule([]string{"a", "b_", "x9"}[r.Intn(3)], randomPart(r, r.Intn(6), worn))
			x.Marks = r.Intn(64 + worn)
			x.Not = [][]api.Range{nil, {}, pairs('a', 'c')}[r.Intn(3)]
			f.R = append(f.R, x)
			if got, want := print.Part(x.E), ownPart(x.E); got != want {
				t.Fatalf("Part(%s) = %q; want %q", short(x.E), got, want)
			}
		}
		asOwn(t, f)
		if print.May(f) {
			may++
			again(t, print.File(f))
		} else {
			not++
		}
	}
	if may < 300 || not < 300 {
		t.Error("few of a sort:", may, not)
	}
}

// R3, R5: what is handed in stays as it was, and the same is told again.
func TestStays(t *testing.T) {
	build := func() api.File {
		return api.File{Keys: []string{"k", "\xff"}, R: []api.Rule{{Name: "x", Marks: 63, E: or(seq(call("a"), star(set('a', 'c', 'x', 'z'))), octets(1, 1, 5, 5)), Not: pairs('a', 'b', 'x', 'x'), At: 5}}}
	}
	f := build()
	s := print.File(f)
	p := print.Part(f.R[0].E)
	if !print.May(f) || s == "" || p == "" || !reflect.DeepEqual(f, build()) {
		t.Error(f, s, p)
	}
	f.Keys[0], f.R[0].E.L[0].L[0].Text = "l", "b"
	if s != print.File(build()) || p != print.Part(build().R[0].E) || s == print.File(f) {
		t.Error(s, p)
	}
}

// P1, R1: 2^16 levels end, and are written; so is a long list.
func TestLevels(t *testing.T) {
	const levels = 1 << 16
	p := call("a")
	for range levels {
		p = star(p)
	}
	writes(t, p, strings.Repeat("(", levels-1)+"a*"+strings.Repeat(")*", levels-1))
	refuses(t, file(rule("x", p)))
	long := slices.Repeat([]api.Part{call("")}, 1<<17)
	writes(t, plus(long...), "+")
	writes(t, seq(long...), strings.Repeat(" ", len(long)-1))
	refuses(t, file(rule("x", seq(long...))))
	wide := slices.Repeat([]api.Part{opt(seq())}, 1<<18)
	writes(t, or(wide...), strings.Repeat(" | ()?", len(wide))[3:])
	refuses(t, file(slices.Repeat([]api.Rule{rule("x", call("a"))}, 1<<16)...))
	refuses(t, api.File{Keys: slices.Repeat([]string{"k"}, 1<<16), R: []api.Rule{rule("x", call("a"))}})
}

// P1, R1: parts that are within themselves, and such as are far more than there is room for, end.
func TestEndless(t *testing.T) {
	for kind := -1; kind <= 9; kind++ {
		l := make([]api.Part, 2)
		p := of(kind, l...)
		p.L = l
		l[0], l[1] = p, p
		print.Part(p)
		refuses(t, file(rule("x", p)))
		refuses(t, file(rule("x", or(call("a"), seq(call("b"), p)))))
	}
	for _, kind := range []int{api.Seq, api.Or, api.Star} {
		p := call("a")
		for range 200 {
			p = of(kind, p, p)
		}
		refuses(t, file(rule("x", p)))
	}
}
