package flat_test

import (
	"fmt"
	"math"
	"math/rand"
	"slices"
	"strings"
	"testing"

	"exegete/api"
	"exegete/flat"
	"exegete/print"
	"exegete/read"
)

// The calls have the signatures of the chapter.
var (
	_ func(f api.File) (api.Gram, int, api.Errno) = flat.Of
	_ func(g api.Gram) bool                       = flat.May
	_ func(a, b api.Gram) bool                    = flat.Same
)

func call(name string) api.Part {
	return api.Part{Kind: api.Call, Text: name}
}

func text(s string) api.Part {
	return api.Part{Kind: api.Text, Text: s}
}

func set(n ...int) api.Part {
	return api.Part{Kind: api.Set, R: pairs(n...)}
}

func octets(n ...int) api.Part {
	return api.Part{Kind: api.Octs, R: pairs(n...)}
}

// pairs is ranges, from every first number to the one behind it.
func pairs(n ...int) []api.Range {
	var l []api.Range
	for i := 0; i+1 < len(n); i += 2 {
		l = append(l, api.Range{Lo: n[i], Hi: n[i+1]})
	}
	return l
}

func of(kind int, l ...api.Part) api.Part {
	return api.Part{Kind: kind, L: l}
}

func seq(l ...api.Part) api.Part  { return of(api.Seq, l...) }
func or(l ...api.Part) api.Part   { return of(api.Or, l...) }
func star(l ...api.Part) api.Part { return of(api.Star, l...) }
func plus(l ...api.Part) api.Part { return of(api.Plus, l...) }
func opt(l ...api.Part) api.Part  { return of(api.Opt, l...) }

// at is a part that begins there.
func at(place int, p api.Part) api.Part {
	p.At = place
	return p
}

func rule(name string, e api.Part) api.Rule {
	return api.Rule{Name: name, E: e}
}

func file(l ...api.Rule) api.File {
	return api.File{R: l}
}

func byteOf(n ...int) api.Sym {
	return api.Sym{Kind: api.Byte, R: pairs(n...)}
}

func char(c byte) api.Sym {
	return byteOf(int(c), int(c))
}

func scal(n ...int) api.Sym {
	return api.Sym{Kind: api.Scal, R: pairs(n...)}
}

func non(n int) api.Sym {
	return api.Sym{Kind: api.Non, N: n}
}

// list is an alternative.
func list(l ...api.Sym) []api.Sym {
	return l
}

// prod is a nonterminal without marks.
func prod(a ...[]api.Sym) api.Prod {
	return api.Prod{A: a}
}

func gram(l ...api.Prod) api.Gram {
	return api.Gram{P: l}
}

// worded is nonterminals as a text that tells all of them, and where no list is told from an empty one.
func worded(g api.Gram) string {
	var out strings.Builder
	for i, p := range g.P {
		fmt.Fprint(&out, i, " ", p.Marks, " ", p.Not, ":")
		for _, l := range p.A {
			fmt.Fprint(&out, " |")
			for _, s := range l {
				fmt.Fprint(&out, " ", s.Kind, s.R, s.N)
			}
		}
		fmt.Fprintln(&out)
	}
	return out.String() + fmt.Sprintf("%d %q", len(g.Keys), g.Keys)
}

func isZero(g api.Gram) bool {
	return len(g.P) == 0 && len(g.Keys) == 0
}

// short is a thing's beginning, so that a failure can be read.
func short(x any) string {
	s := fmt.Sprintf("%+v", x)
	return s[:min(len(s), 600)]
}

// makes fails the test if Of tells anything but these nonterminals, or they may not be.
func makes(t *testing.T, f api.File, want api.Gram) {
	t.Helper()
	g, place, e := flat.Of(f)
	if place != 0 || e != api.OK || worded(g) != worded(want) {
		t.Errorf("Of(%s) = %s\n%d, %d; want %s\n0, 0", short(f), worded(g), place, e, worded(want))
	}
	if !flat.Same(g, want) || !flat.May(g) {
		t.Errorf("of %s: same %v, may be %v", short(g), flat.Same(g, want), flat.May(g))
	}
}

// makesText fails the test if Of tells anything but these nonterminals of the file that a text is read as.
func makesText(t *testing.T, s string, want ...api.Prod) {
	t.Helper()
	makes(t, readAs(t, s), gram(want...))
}

func readAs(t *testing.T, s string) api.File {
	t.Helper()
	f, place, e := read.File(s)
	if e != api.OK {
		t.Fatalf("File(%q): %d, %d", s, place, e)
	}
	return f
}

// refuses fails the test if Of tells anything but the error, there.
func refuses(t *testing.T, f api.File, place int, e api.Errno) {
	t.Helper()
	if g, gotPlace, gotE := flat.Of(f); gotPlace != place || gotE != e || !isZero(g) {
		t.Errorf("Of(%s) = %s, %d, %d; want nothing, %d, %d", short(f), short(g), gotPlace, gotE, place, e)
	}
}

// refusesText fails the test if Of tells anything but the error where the ! stands in the text, which is left out of it.
func refusesText(t *testing.T, s string, e api.Errno) {
	t.Helper()
	place := strings.Index(s, "!")
	f := readAs(t, strings.Replace(s, "!", "", 1))
	refuses(t, f, place, e)
}

// asOwn fails the test if anything is told but what the other reckoning does; it tells the error.
func asOwn(t *testing.T, f api.File) api.Errno {
	t.Helper()
	g, place, e := flat.Of(f)
	want, wantPlace, wantE := ownOf(f)
	if place != wantPlace || e != wantE || worded(g) != worded(want) {
		t.Fatalf("Of(%s) = %s\n%d, %d; want %s\n%d, %d", short(f), worded(g), place, e, worded(want), wantPlace, wantE)
	}
	if got, want := flat.May(g), ownMay(g); got != want {
		t.Fatalf("May(%s) = %v", short(g), got)
	}
	if !flat.Same(g, want) {
		t.Fatalf("Same of %s is false", short(g))
	}
	return e
}

// P8.1: the example.
func TestExample(t *testing.T) {
	makesText(t, `a = "x"*;`, prod(list(non(1))), prod(list(char('x'), non(1)), nil))
}

// P8.1: all there is of a file at once.
func TestWhole(t *testing.T) {
	f := readAs(t, `% "if" "do"; @sync @long a = (b | <0a>)+ [x-z]? / [a-c]; @res b = | a* "yz";`)
	makes(t, f, api.Gram{Keys: []string{"if", "do"}, P: []api.Prod{
		{A: [][]api.Sym{list(non(2), non(4))}, Marks: api.Sync | api.Long, Not: pairs('a', 'c')},
		{A: [][]api.Sym{nil, list(non(5), char('y'), char('z'))}, Marks: api.Res},
		prod(list(non(3), non(2)), list(non(3))),
		prod(list(non(1)), list(byteOf(10, 10))),
		prod(list(scal('x', 'z')), nil),
		prod(list(non(0), non(5)), nil),
	}})
}

// P8.1: a Call of the first rule, of itself, and of a rule behind; names that no text has.
func TestCalls(t *testing.T) {
	makesText(t, "a = a;", prod(list(non(0))))
	makesText(t, "a = b c; b = a b; c = ;", prod(list(non(1), non(2))), prod(list(non(0), non(1))), prod(list()))
	makes(t, file(rule("", call("A b")), rule("A b", call(""))), gram(prod(list(non(1))), prod(list(non(0)))))
	makes(t, file(rule("a", call("A")), rule("A", call("a"))), gram(prod(list(non(1))), prod(list(non(0)))))
	// All but its name is nothing to a Call.
	makes(t, file(rule("a", api.Part{Kind: api.Call, Text: "a", R: pairs(1, 1), L: []api.Part{call("b")}})), gram(prod(list(non(0)))))
}

// P8.1: a Call of a name that no rule has, wherever it stands.
func TestErrName(t *testing.T) {
	for _, s := range []string{
		"a = !b;", "a = a !b a;", "a = a | !b;", "a = (!b)*;", "a = a (\"x\" | !b)+;", "a = (a (a (a !b)?)*)+;", "a = ; b = !c;", "a = !aa; b = c;", "a = a | !b c;", "a = !b; c = d;",
		"a = !x*;", "a = (!x|a);", "abcdefghijkl = !abcdefghijk;",
	} {
		refusesText(t, s, api.ErrName)
	}
	refuses(t, file(rule("a", at(7, call("")))), 7, api.ErrName)
	refuses(t, file(rule("a", at(-7, call("A")))), -7, api.ErrName)
	refuses(t, file(rule("a", at(math.MaxInt, call("a ")))), math.MaxInt, api.ErrName)
	refuses(t, api.File{Keys: []string{"b"}, R: []api.Rule{rule("a", at(math.MinInt, call("b")))}}, math.MinInt, api.ErrName)
}

// P8.1: two rules of one name, and which of them is told, ahead of all else.
func TestErrTwice(t *testing.T) {
	for _, s := range []string{
		"a = ; !a = ;", "a = ; b = ; c = ; !b = ; c = ; a = ;", "a = ; b = ; !b = ; a = ;", "a = x; !a = ;", "a = x; b = y; @long !a = ;", "a = ; !a = ; a = ;",
		"a = a|a|a|a|a|a|a|a|a; !a = ;",
	} {
		refusesText(t, s, api.ErrTwice)
	}
	refuses(t, file(rule("a", at(1, of(9))), api.Rule{Name: "a", At: -5, E: at(3, star())}), -5, api.ErrTwice)
	refuses(t, file(api.Rule{At: 1}, api.Rule{At: 2}, api.Rule{At: 3}), 2, api.ErrTwice)
	// Rules that stand in another order than they begin: that which is behind is told.
	refuses(t, file(api.Rule{Name: "a", At: 9}, api.Rule{Name: "b", At: 5}, api.Rule{Name: "a", At: 3}, api.Rule{Name: "b", At: 1}), 3, api.ErrTwice)
}

// someRules is rules of other names, without anything.
func someRules(many int) []api.Rule {
	var l []api.Rule
	for i := range many {
		l = append(l, api.Rule{Name: fmt.Sprint("r", i), E: api.Part{Kind: api.Seq, At: i + 70}, At: i + 500})
	}
	return l
}

// P8.1: no rule, 60 and 61 of them, of other names and of one.
func TestRules(t *testing.T) {
	for _, f := range []api.File{{}, {Keys: []string{"k"}}, {Keys: []string{}, R: []api.Rule{}}} {
		refuses(t, f, 0, api.ErrSize)
	}
	for many := 1; many <= 60; many++ {
		makes(t, file(someRules(many)...), gram(slices.Repeat([]api.Prod{prod(nil)}, many)...))
	}
	for _, many := range []int{61, 62, 100, 5000} {
		l := someRules(many)
		refuses(t, file(l...), 0, api.ErrSize)
		l[0].E = at(5, call("x"))
		refuses(t, file(l...), 0, api.ErrSize)
		l[60].Name = "r7"
		refuses(t, file(l...), 560, api.ErrTwice)
		l[2].Name = "r0"
		refuses(t, file(l...), 502, api.ErrTwice)
	}
	l := someRules(60)
	l[59].E = call("r58")
	l[3].E = or(call("r59"), call("r0"))
	want := slices.Repeat([]api.Prod{prod(nil)}, 60)
	want[59] = prod(list(non(58)))
	want[3] = prod(list(non(59)), list(non(0)))
	makes(t, file(l...), gram(want...))
	l[3].E = at(8, star(seq()))
	refuses(t, file(l...), 8, api.ErrSize)
}

// P8.1: a Text of no byte, of one, of several, of all bytes that there are; 40 and 41.
func TestTexts(t *testing.T) {
	makes(t, file(rule("a", text(""))), gram(prod(nil)))
	makes(t, file(rule("a", seq(text(""), text("b"), text("")))), gram(prod(list(char('b')))))
	makes(t, file(rule("a", star(text("")))), gram(prod(list(non(1))), prod(list(non(1)), nil)))
	makes(t, file(rule("a", or(text(""), text("")))), gram(prod(nil, nil)))
	makesText(t, `a = "x";`, prod(list(char('x'))))
	makesText(t, `a = "xyx" "\xff\x00\x80";`, prod(list(char('x'), char('y'), char('x'), char(255), char(0), char(128))))
	// Bytes, not scalars.
	makes(t, file(rule("a", text("ä\xff"))), gram(prod(list(char(195), char(164), char(255)))))
	for b := range 256 {
		makes(t, file(rule("a", text(string([]byte{byte(b)})))), gram(prod(list(char(byte(b))))))
	}
	makes(t, file(rule("a", text(strings.Repeat("x", 40)))), gram(prod(slices.Repeat(list(char('x')), 40))))
	refuses(t, file(rule("a", at(6, text(strings.Repeat("x", 41))))), 6, api.ErrSize)
	refuses(t, file(rule("a", at(6, text(strings.Repeat("x", 1<<24))))), 6, api.ErrSize)
}

// P8.1: a Set is a Scal, Octs are a Byte, of R as it is.
func TestSets(t *testing.T) {
	makesText(t, "a = [a-cx] <00-1fff> [] <>;", prod(list(scal('a', 'c', 'x', 'x'), byteOf(0, 31, 255, 255), scal(), byteOf())))
	makes(t, file(rule("a", seq(set(0, 1114111), octets(0, 255)))), gram(prod(list(scal(0, 1114111), byteOf(0, 255)))))
	for _, l := range [][]api.Range{pairs(5, 4), pairs(1, 2, 3, 4), pairs(9, 9, 1, 1), pairs(-1, 3), pairs(0, 1114112), pairs(math.MinInt, math.MaxInt)} {
		for _, kind := range []int{api.Set, api.Octs} {
			g, place, e := flat.Of(file(rule("a", api.Part{Kind: kind, R: l})))
			want := api.Sym{Kind: map[int]int{api.Set: api.Scal, api.Octs: api.Byte}[kind], R: l}
			if place != 0 || e != api.OK || worded(g) != worded(gram(prod(list(want)))) || flat.May(g) {
				t.Errorf("of %v: %s, %d, %d, may be %v", l, worded(g), place, e, flat.May(g))
			}
		}
	}
}

// P8.1: a Seq of none, of one and of several parts, and within others, makes no nonterminal.
func TestSeqs(t *testing.T) {
	a, x := call("a"), text("x")
	for _, c := range []struct {
		p    api.Part
		want []api.Sym
	}{
		{seq(), nil}, {seq(x), list(char('x'))}, {seq(x, a, x), list(char('x'), non(0), char('x'))}, {seq(seq()), nil}, {seq(seq(), seq(seq())), nil},
		{seq(seq(x, a), x), list(char('x'), non(0), char('x'))}, {seq(x, seq(a, seq(a, x), x), a), list(char('x'), non(0), non(0), char('x'), char('x'), non(0))},
		{seq(seq(seq(seq(x)))), list(char('x'))},
	} {
		makes(t, file(rule("a", c.p)), gram(prod(c.want)))
		makes(t, file(rule("a", or(c.p, x, c.p))), gram(prod(c.want, list(char('x')), c.want)))
		makes(t, file(rule("a", opt(c.p))), gram(prod(list(non(1))), prod(c.want, nil)))
		makes(t, file(rule("a", star(c.p))), gram(prod(list(non(1))), prod(append(slices.Clone(c.want), non(1)), nil)))
		makes(t, file(rule("a", plus(c.p))), gram(prod(list(non(1))), prod(append(slices.Clone(c.want), non(1)), c.want)))
		makes(t, file(rule("a", seq(or(c.p, c.p)))), gram(prod(list(non(1))), prod(c.want, c.want)))
	}
}

// P8.1: an Or, a Star, a Plus and an Opt as a rule's own part, and as a part of each.
func TestAnew(t *testing.T) {
	x := list(char('x'))
	makesText(t, `a = "x" | a;`, prod(x, list(non(0))))
	makesText(t, `a = ("x" | a);`, prod(x, list(non(0))))
	makesText(t, `a = "x"*;`, prod(list(non(1))), prod(list(char('x'), non(1)), nil))
	makesText(t, `a = "x"+;`, prod(list(non(1))), prod(list(char('x'), non(1)), x))
	makesText(t, `a = "x"?;`, prod(list(non(1))), prod(x, nil))
	makesText(t, `a = "x" ("x" | a);`, prod(list(char('x'), non(1))), prod(x, list(non(0))))
	makesText(t, `a = ("x" | a) | "x";`, prod(list(non(1)), x), prod(x, list(non(0))))
	makesText(t, `a = ("x" | a)*;`, prod(list(non(1))), prod(list(non(2), non(1)), nil), prod(x, list(non(0))))
	makesText(t, `a = ("x" | a)+;`, prod(list(non(1))), prod(list(non(2), non(1)), list(non(2))), prod(x, list(non(0))))
	makesText(t, `a = ("x" | a)?;`, prod(list(non(1))), prod(list(non(2)), nil), prod(x, list(non(0))))
	makesText(t, `a = ("x"*)*;`, prod(list(non(1))), prod(list(non(2), non(1)), nil), prod(list(char('x'), non(2)), nil))
	makesText(t, `a = ("x"+)+;`, prod(list(non(1))), prod(list(non(2), non(1)), list(non(2))), prod(list(char('x'), non(2)), x))
	makesText(t, `a = ("x"?)?;`, prod(list(non(1))), prod(list(non(2)), nil), prod(x, nil))
	makesText(t, `a = ("x"+)?;`, prod(list(non(1))), prod(list(non(2)), nil), prod(list(char('x'), non(2)), x))
	makesText(t, `a = "x" | "x"*;`, prod(x, list(non(1))), prod(list(char('x'), non(1)), nil))
	// An Or of one part is one.
	makes(t, file(rule("a", or(text("x")))), gram(prod(x)))
	makes(t, file(rule("a", or(or(text("x"))))), gram(prod(list(non(1))), prod(x)))
	makes(t, file(rule("a", seq(or(text("x"))))), gram(prod(list(non(1))), prod(x)))
	// All but its parts is nothing to it.
	makes(t, file(rule("a", api.Part{Kind: api.Opt, Text: "y", R: pairs(1, 1), L: []api.Part{text("x")}})), gram(prod(list(non(1))), prod(x, nil)))
}

// P8.1: new nonterminals are put behind as soon as they are come to, those within one ahead of those behind it.
func TestOrder(t *testing.T) {
	makesText(t, `a = ("x" b* | (b?)+)* b+; b = (a | (b | a)*)? | a*;`,
		prod(list(non(2), non(7))), prod(list(non(8)), list(non(12))),
		prod(list(non(3), non(2)), nil), prod(list(char('x'), non(4)), list(non(5))), prod(list(non(1), non(4)), nil),
		prod(list(non(6), non(5)), list(non(6))), prod(list(non(1)), nil), prod(list(non(1), non(7)), list(non(1))),
		prod(list(non(9)), nil), prod(list(non(0)), list(non(10))), prod(list(non(11), non(10)), nil), prod(list(non(1)), list(non(0))),
		prod(list(non(0), non(12)), nil))
	// What is made of a Plus's part is made once, and stands in both of its alternatives.
	makesText(t, `a = ("x"* "y"? [z])+ "w"*;`, prod(list(non(1), non(4))),
		prod(list(non(2), non(3), scal('z', 'z'), non(1)), list(non(2), non(3), scal('z', 'z'))),
		prod(list(char('x'), non(2)), nil), prod(list(char('y')), nil), prod(list(char('w'), non(4)), nil))
	// The same part twice is two nonterminals.
	makesText(t, `a = "x"* "x"* | "x"*;`, prod(list(non(1), non(2)), list(non(3))),
		prod(list(char('x'), non(1)), nil), prod(list(char('x'), non(2)), nil), prod(list(char('x'), non(3)), nil))
}

// P8.1: marks, what may not follow, and keys are those of the file, of a rule's nonterminals alone, whatever they are.
func TestMarksNotsKeys(t *testing.T) {
	wild := [][]api.Range{nil, {}, pairs('a', 'c'), pairs(0, 1114111), pairs(5, 4), pairs(1, 2, 3, 4), pairs(-1, 0), pairs(0, 1114112)}
	keys := [][]string{nil, {}, {"k"}, {"k", "k", ""}, slices.Repeat([]string{"\xff"}, 99)}
	for _, marks := range []int{0, 1, 2, 4, 8, 16, 32, 63, 64, -1, math.MaxInt, math.MinInt} {
		for i, not := range wild {
			for _, k := range keys {
				f := api.File{Keys: k, R: []api.Rule{{Name: "a", Marks: marks, E: star(call("a")), Not: not}, {Name: "b", E: opt(call("b"))}}}
				want := api.Gram{Keys: k, P: []api.Prod{
					{A: [][]api.Sym{list(non(2))}, Marks: marks, Not: not}, prod(list(non(3))),
					prod(list(non(0), non(2)), nil), prod(list(non(1)), nil),
				}}
				g, place, e := flat.Of(f)
				may := i < 4 && marks >= 0 && marks <= 63
				if place != 0 || e != api.OK || worded(g) != worded(want) || flat.May(g) != may {
					t.Errorf("%d, %v, %q: %s, %d, %d, may be %v", marks, not, k, worded(g), place, e, flat.May(g))
				}
			}
		}
	}
}

// withMore is a rule's part with one more behind it; an Or stays the rule's own.
func withMore(e, p api.Part) api.Part {
	if e.Kind == api.Or {
		return or(append(slices.Clone(e.L), p)...)
	}
	return seq(e, p)
}

// P8.1: 60 nonterminals and the 61st one, by each kind, and where it is told.
func TestNonterminals(t *testing.T) {
	x := text("x")
	for _, p := range []api.Part{or(x, x), star(x), plus(x), opt(x)} {
		for _, rules := range []int{1, 2, 10, 59, 60} {
			l := someRules(rules)
			left := 60 - rules
			// Alternatives of at most 40 symbols.
			l[0].E = seq(slices.Repeat([]api.Part{p}, min(left, 40))...)
			if left > 40 {
				l[0].E = or(l[0].E, seq(slices.Repeat([]api.Part{p}, left-40)...))
			}
			g, place, e := flat.Of(file(l...))
			if len(g.P) != 60 || place != 0 || e != api.OK || !flat.May(g) {
				t.Errorf("%d nonterminals, %d, %d", len(g.P), place, e)
			}
			asOwn(t, file(l...))
			l[rules-1].E = withMore(l[rules-1].E, at(-8, p))
			refuses(t, file(l...), -8, api.ErrSize)
			l[rules-1].E = withMore(l[rules-1].E, at(9, call("none")))
			refuses(t, file(l...), -8, api.ErrSize)
		}
	}
	// 59 within one another, and 60.
	p := call("a")
	for many := 1; many <= 70; many++ {
		p = at(many, star(p))
		if many <= 59 {
			g, _, e := flat.Of(file(rule("a", p)))
			if len(g.P) != many+1 || e != api.OK || !flat.May(g) {
				t.Errorf("%d within one another: %d, %d", many, len(g.P), e)
			}
		} else {
			// The outermost is made first, so that it is not the innermost that is told.
			refuses(t, file(rule("a", p)), many-59, api.ErrSize)
		}
	}
	// An unknown name within what would be the 61st one is not come to.
	l := someRules(60)
	l[59].E = at(3, plus(at(4, call("none"))))
	refuses(t, file(l...), 3, api.ErrSize)
	l[58].E = at(5, call("none"))
	refuses(t, file(l...), 5, api.ErrName)
}

// P8.1: no alternative, one, 8 and 9, of a rule and of a part.
func TestAlternatives(t *testing.T) {
	for many := range 12 {
		p := at(7, or(slices.Repeat([]api.Part{text("x")}, many)...))
		own := file(rule("b", seq()), rule("a", p))
		within := file(rule("b", seq()), rule("a", at(3, seq(call("a"), at(4, star(p)), call("b")))))
		if many == 0 || many > 8 {
			refuses(t, own, 7, api.ErrSize)
			refuses(t, within, 7, api.ErrSize)
			continue
		}
		a := slices.Repeat([][]api.Sym{list(char('x'))}, many)
		makes(t, own, gram(prod(nil), prod(a...)))
		makes(t, within, gram(prod(nil), prod(list(non(1), non(2), non(0))), prod(list(non(3), non(2)), nil), prod(a...)))
	}
	refuses(t, file(rule("a", at(7, or(make([]api.Part, 1<<20)...))), rule("", seq())), 7, api.ErrSize)
}

// P8.1: no symbol, 40 and 41, of each alternative, of a rule and of each part; a Non behind is one more.
func TestSymbols(t *testing.T) {
	for _, many := range []int{0, 1, 38, 39, 40, 41, 42, 100} {
		parts := map[string]api.Part{
			"text":  text(strings.Repeat("x", many)),
			"calls": seq(slices.Repeat([]api.Part{call("a")}, many)...),
			"sets":  seq(slices.Repeat([]api.Part{set(1, 2), octets(3, 4)}, (many+1)/2)[:many]...),
			"mixed": seq(text(strings.Repeat("x", many/2)), seq(), seq(slices.Repeat([]api.Part{call("a")}, many-many/2)...)),
		}
		for name, p := range parts {
			p.At = 5
			for _, c := range []struct {
				p     api.Part
				most  int
				place int
			}{
				{p, 40, 5}, {at(2, seq(p)), 40, 2}, {at(2, seq(call("a"), p)), 39, 2}, {at(2, or(p)), 40, 2}, {at(2, or(seq(), p, seq())), 40, 2}, {at(2, or(seq(), p, at(9, call("a")))), 40, 2},
				{at(3, star(p)), 39, 3}, {at(3, plus(p)), 39, 3}, {at(3, opt(p)), 40, 3}, {at(1, seq(at(3, star(p)), call("a"))), 39, 3}, {at(1, or(at(3, or(call("a"), p)), call("a"))), 40, 3},
				{at(1, opt(at(3, plus(at(4, seq(p)))))), 39, 3},
			} {
				f := file(rule("a", c.p))
				if many > c.most {
					refuses(t, f, c.place, api.ErrSize)
				} else if g, _, e := flat.Of(f); e != api.OK || !flat.May(g) {
					t.Errorf("%d of %s: Of(%s): %d", many, name, short(f), e)
				}
				asOwn(t, f)
			}
		}
	}
}

// P8.1: which of two errors is told first, and where.
func TestFirst(t *testing.T) {
	long := `"` + strings.Repeat("x", 41) + `"`
	nine := "(a|a|a|a|a|a|a|a|a)"
	for _, c := range []struct {
		s string
		e api.Errno
	}{
		// All alternatives are made ahead of it that they are too many, or one too long.
		{"a = a|a|a|a|a|a|a|a|!b;", api.ErrName}, {"a = " + long + " | !b;", api.ErrName}, {"a = " + long + " !b;", api.ErrName}, {"a = (" + long + " | !b)*;", api.ErrName},
		{"a = " + long + " a* !b;", api.ErrName}, {"a = a|a|a|a|a|a|a|a|(!b)*;", api.ErrName},
		{"a = a|a|a|a|a|a|a|a|a|!b;", api.ErrName}, {"a = " + strings.Repeat("a|", 30) + "(a !b)* | c;", api.ErrName}, {"a = (a|a|a|a|a|a|a|a|a|a|(!" + long + ")?)*;", api.ErrSize},
		// What is within is told ahead of what is about it, and of what is behind.
		{"a = (!" + long + ")* b;", api.ErrSize}, {"a = (!" + long + ")? b;", api.ErrSize}, {"a = (!" + long + " | a) b;", api.ErrSize}, {"a = a (!a|a|a|a|a|a|a|a|a) b;", api.ErrSize},
		{"a = (a " + strings.Replace(nine, "(", "(!", 1) + ")* b;", api.ErrSize}, {"a = (" + long + " (!b)*)*;", api.ErrName}, {"a = " + long + " | (!a " + long + ")*;", api.ErrSize},
		{"a = !b | c;", api.ErrName}, {"a = !" + long + "; b = c;", api.ErrSize}, {"a = !" + long + "; b = a|a|a|a|a|a|a|a|a;", api.ErrSize},
		{"a = !a|a|a|a|a|a|a|a|a; b = c;", api.ErrSize}, {"a = a; b = !c; d = " + long + ";", api.ErrName},
		{"a = !a " + long + " | a|a|a|a|a|a|a|a|a; b = c;", api.ErrSize}, {"a = (!" + long + ")* | a|a|a|a|a|a|a|a|a|c;", api.ErrSize},
	} {
		refusesText(t, c.s, c.e)
	}
	// What is of no kind is told in order, as all else is.
	none := at(3, of(9))
	refuses(t, file(rule("a", at(1, seq(at(2, call("x")), none)))), 2, api.ErrName)
	refuses(t, file(rule("a", at(1, seq(none, at(2, call("x")))))), 3, api.ErrSize)
	refuses(t, file(rule("a", at(2, call("x"))), rule("b", none)), 2, api.ErrName)
	refuses(t, file(rule("a", none), rule("b", at(2, call("x")))), 3, api.ErrSize)
	refuses(t, file(rule("a", at(1, or(slices.Repeat([]api.Part{none}, 9)...)))), 3, api.ErrSize)
	refuses(t, file(rule("a", at(1, seq(text(strings.Repeat("x", 41)), none)))), 3, api.ErrSize)
}

// P8.1: parts of a kind that is none, and a Star, a Plus and an Opt of no part and of two, wherever they stand.
func TestNoParts(t *testing.T) {
	var wrong []api.Part
	for _, kind := range []int{-1, 9, 10, 255, 256, math.MaxInt, math.MinInt} {
		wrong = append(wrong, of(kind), of(kind, seq()), api.Part{Kind: kind, Text: "a", R: pairs(1, 1)})
	}
	for _, kind := range []int{api.Star, api.Plus, api.Opt} {
		wrong = append(wrong, of(kind), of(kind, call("a"), call("a")), of(kind, seq(), seq(), seq()), of(kind, at(4, call("none")), call("a")), of(kind, at(4, of(9)), at(5, star())))
	}
	for _, p := range wrong {
		for _, place := range []int{0, 7, -7} {
			p.At = place
			for _, q := range []api.Part{p, at(2, seq(p)), at(2, seq(call("a"), p, at(3, call("none")))), at(2, or(p)), at(2, or(seq(), p, at(3, of(-1)))), at(2, star(p)), at(2, plus(p)), at(2, opt(p)), at(2, opt(at(3, seq(at(4, or(call("a"), p)), call("a")))))} {
				refuses(t, file(rule("a", q)), place, api.ErrSize)
				refuses(t, file(rule("b", star(call("a"))), rule("a", q), rule("c", at(9, call("none")))), place, api.ErrSize)
			}
		}
	}
	// Parts of a Call, a Text, a Set and Octs are none of theirs.
	for _, kind := range []int{api.Call, api.Text, api.Set, api.Octs} {
		p := api.Part{Kind: kind, Text: "a", L: wrong}
		if _, place, e := flat.Of(file(rule("a", p))); place != 0 || e != api.OK {
			t.Errorf("kind %d: %d, %d", kind, place, e)
		}
	}
}

// P1: lists of parts that are within themselves, and parts deeper than there may be, end.
func TestDeep(t *testing.T) {
	for _, kind := range []int{api.Seq, api.Or, api.Star, api.Plus, api.Opt} {
		l := make([]api.Part, 1)
		l[0] = api.Part{Kind: kind, L: l, At: 5}
		refuses(t, file(rule("a", l[0])), 5, api.ErrSize)
		wide := make([]api.Part, 50)
		for i := range wide {
			wide[i] = api.Part{Kind: []int{api.Seq, kind}[i%2], L: wide, At: 5}
		}
		refuses(t, file(rule("a", at(5, seq(wide...)))), 5, api.ErrSize)
	}
	p := call("a")
	for range 1 << 16 {
		p = seq(p)
	}
	makes(t, file(rule("a", p)), gram(prod(list(non(0)))))
}

// P8.1, P8.3: all short rules.
func TestAllShort(t *testing.T) {
	signs := []string{"a", "c", `"xy"`, "(", ")", "|", "*", "+"}
	told := map[api.Errno]int{}
	var all func(s string, left int)
	all = func(s string, left int) {
		if f, _, e := read.File("a=" + s + ";b=[d]?a;"); e == api.OK {
			told[asOwn(t, f)]++
		}
		if left > 0 {
			for _, sign := range signs {
				all(s+" "+sign, left-1)
			}
		}
	}
	all("", 5)
	if told[api.OK] < 1000 || told[api.ErrName] < 500 {
		t.Error("few of a sort:", told)
	}
}

// randomPart is some part, at most so deep; worn is how often, of a thousand, something is wrong with it.
func randomPart(r *rand.Rand, deep, worn int) api.Part {
	kind := r.Intn(9)
	if deep == 0 {
		kind = r.Intn(4)
	}
	p := api.Part{Kind: kind, At: r.Intn(999)}
	switch kind {
	case api.Call:
		p.Text = []string{"r0", "r1", "r0", "r2"}[r.Intn(4)]
	case api.Text:
		p.Text = strings.Repeat("xä", r.Intn(3))
	case api.Set:
		p.R = [][]api.Range{nil, pairs('a', 'z'), pairs(0, 0, 228, 300)}[r.Intn(3)]
	case api.Octs:
		p.R = [][]api.Range{{}, pairs(0, 255), pairs(1, 1, 9, 10)}[r.Intn(3)]
	case api.Seq, api.Or:
		for range 1 + r.Intn(4) {
			p.L = append(p.L, randomPart(r, deep-1, worn))
		}
	default:
		p.L = []api.Part{randomPart(r, deep-1, worn)}
	}
	if r.Intn(1000) < worn {
		wear(r, &p)
	}
	return p
}

// wear makes something of a part wrong, perhaps.
func wear(r *rand.Rand, p *api.Part) {
	switch r.Intn(7) {
	case 0:
		p.Kind = r.Intn(12) - 1
	case 1:
		p.Text += string([]byte{"a r2"[r.Intn(4)]})
	case 2:
		p.R = append(slices.Clone(p.R), api.Range{Lo: r.Intn(300), Hi: r.Intn(300)})
	case 3:
		p.L = append(p.L, call("r0"))
	case 4:
		p.L = p.L[:len(p.L)/2]
	case 5:
		p.Text = strings.Repeat("y", 36+r.Intn(10))
		p.L = slices.Repeat(p.L, r.Intn(12))
	case 6:
		p.Kind, p.Text = api.Call, "none"
	}
}

func randomFile(r *rand.Rand, worn int) api.File {
	var f api.File
	for range r.Intn(4) {
		f.Keys = append(f.Keys, []string{"", "if", "\xff"}[r.Intn(3)])
	}
	many := 3 + r.Intn(4)
	if r.Intn(1000) < 5*worn {
		many = r.Intn(80)
	}
	for i := range many {
		x := rule(fmt.Sprint("r", i), randomPart(r, r.Intn(5), worn))
		if r.Intn(1000) < worn/2 {
			x.Name = "r1"
		}
		x.Marks = r.Intn(64 + worn/20)
		x.Not = [][]api.Range{nil, {}, pairs('a', 'c'), pairs(0, 1114111)}[r.Intn(4)]
		x.At = r.Intn(999)
		f.R = append(f.R, x)
	}
	return f
}

// P8.1, P8.3: many files, and with something wrong, are as the other reckoning says; those with such sets may be.
func TestRandom(t *testing.T) {
	r := rand.New(rand.NewSource(8))
	told := map[api.Errno]int{}
	for i := range 30000 {
		worn := i % 3 * 10
		f := randomFile(r, worn)
		e := asOwn(t, f)
		told[e]++
		if g, _, _ := flat.Of(f); worn == 0 && e == api.OK && !flat.May(g) {
			t.Fatalf("of %s: it may not be", short(f))
		}
	}
	for _, e := range []api.Errno{api.OK, api.ErrName, api.ErrTwice, api.ErrSize} {
		if told[e] < 500 {
			t.Error("few of a sort:", told)
		}
	}
}

// P8.3: what is made of a text may be; of what is printed of it the same is made.
func TestReadMay(t *testing.T) {
	r := rand.New(rand.NewSource(80))
	may, not := 0, 0
	for i := range 10000 {
		f, _, e := read.File(print.File(randomFile(r, i%2*90)))
		if e != api.OK {
			continue
		}
		g, _, e := flat.Of(f)
		// A line feed stands between rules alone, so that blanks beside it change nothing but where things begin.
		again, _, _ := read.File("\n " + strings.ReplaceAll(print.File(f), "\n", "\t\n "))
		h, _, eh := flat.Of(again)
		if e != eh || worded(g) != worded(h) || !flat.Same(g, h) || flat.May(g) != (e == api.OK) {
			t.Fatalf("of %s: %s, %d, and %s, %d", short(f), worded(g), e, worded(h), eh)
		}
		if e == api.OK {
			may++
		} else {
			not++
		}
	}
	if may < 300 || not < 20 {
		t.Error("few of a sort:", may, not)
	}
}

// moved is a file of which all begins elsewhere.
func moved(f api.File, to func(int) int) api.File {
	var part func(p api.Part) api.Part
	part = func(p api.Part) api.Part {
		p.At = to(p.At)
		p.L = slices.Clone(p.L)
		for i := range p.L {
			p.L[i] = part(p.L[i])
		}
		return p
	}
	f.R = slices.Clone(f.R)
	for i := range f.R {
		f.R[i].At = to(f.R[i].At)
		f.R[i].E = part(f.R[i].E)
	}
	return f
}

// P8.3: a file that is the same but for where things begin is made the same; with an error the place is that of the same thing.
func TestMoved(t *testing.T) {
	r := rand.New(rand.NewSource(81))
	for i := range 5000 {
		f := randomFile(r, i%3*10)
		g, place, e := flat.Of(f)
		for name, to := range map[string]func(int) int{
			"none": func(int) int { return 0 }, "back": func(n int) int { return -n }, "far": func(n int) int { return math.MaxInt - n },
		} {
			other := moved(f, to)
			h, placeH, eh := flat.Of(other)
			want := 0
			if e != api.OK && len(f.R) != 0 && (len(f.R) <= 60 || e == api.ErrTwice) {
				want = to(place)
			}
			if !read.Same(f, other) || e != eh || placeH != want || worded(g) != worded(h) || !flat.Same(g, h) {
				t.Fatalf("%s: of %s: %d, %d, %s; then %d, %d, %s", name, short(f), place, e, worded(g), placeH, eh, worded(h))
			}
		}
	}
}
