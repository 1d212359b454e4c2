package reach_test

import (
	"fmt"
	"math"
	"slices"
	"testing"

	"exegete/api"
	"exegete/flat"
	"exegete/reach"
	"exegete/read"
)

// The calls have the signatures of the chapter.
var (
	_ func(g api.Gram, n int) []bool = reach.From
	_ func(g api.Gram) []bool        = reach.Makes
	_ func(g api.Gram) int           = reach.Lost
	_ func(g api.Gram) int           = reach.Vain
)

// gramOf is the nonterminals of a grammar's text.
func gramOf(t *testing.T, s string) api.Gram {
	t.Helper()
	f, at, e := read.File(s)
	if e != api.OK {
		t.Fatalf("%s is not read: %d, %d", s, at, e)
	}
	g, at, e := flat.Of(f)
	if e != api.OK {
		t.Fatalf("%s is not made: %d, %d", s, at, e)
	}
	return g
}

// nons is symbols that are nonterminals.
func nons(l ...int) []api.Sym {
	var out []api.Sym
	for _, n := range l {
		out = append(out, api.Sym{Kind: api.Non, N: n})
	}
	return out
}

// setOf is a symbol of a kind, of numbers from one up to another one, again and again.
func setOf(kind int, l ...int) api.Sym {
	s := api.Sym{Kind: kind}
	for i := 0; i < len(l); i += 2 {
		s.R = append(s.R, api.Range{Lo: l[i], Hi: l[i+1]})
	}
	return s
}

// x is an alternative of a byte.
func x() []api.Sym {
	return []api.Sym{setOf(api.Byte, 'x', 'x')}
}

func prod(a ...[]api.Sym) api.Prod {
	return api.Prod{A: a}
}

// short is a thing's beginning, so that a failure can be read.
func short(x any) string {
	s := fmt.Sprintf("%+v", x)
	return s[:min(len(s), 600)]
}

// those are the numbers of which it is told that it is so.
func those(l []bool) []int {
	var out []int
	for n, is := range l {
		if is {
			out = append(out, n)
		}
	}
	return out
}

// upTo are the numbers from 0 on.
func upTo(many int) []int {
	var l []int
	for n := range many {
		l = append(l, n)
	}
	return l
}

// areWithin fails the test if others than these are told to be within a nonterminal.
func areWithin(t *testing.T, g api.Gram, n int, want ...int) {
	t.Helper()
	if l := reach.From(g, n); len(l) != len(g.P) || !slices.Equal(those(l), want) {
		t.Errorf("From(%s, %d) = %v; want %v", short(g), n, l, want)
	}
}

// haveTexts fails the test if a text is told to be of others than these.
func haveTexts(t *testing.T, g api.Gram, want ...int) {
	t.Helper()
	if l := reach.Makes(g); len(l) != len(g.P) || !slices.Equal(those(l), want) {
		t.Errorf("Makes(%s) = %v; want %v", short(g), l, want)
	}
}

func isLost(t *testing.T, g api.Gram, want int) {
	t.Helper()
	if n := reach.Lost(g); n != want {
		t.Errorf("Lost(%s) = %d; want %d", short(g), n, want)
	}
}

func isVain(t *testing.T, g api.Gram, want int) {
	t.Helper()
	if n := reach.Vain(g); n != want {
		t.Errorf("Vain(%s) = %d; want %d", short(g), n, want)
	}
}

// tellNothing fails the test if anything is told of nonterminals that may not be.
func tellNothing(t *testing.T, g api.Gram) {
	t.Helper()
	for _, n := range []int{math.MinInt, -1, 0, 1, 2, 59, 60, 61, math.MaxInt} {
		if l := reach.From(g, n); len(l) != 0 {
			t.Errorf("From(%s, %d) = %v", short(g), n, l)
		}
	}
	if l := reach.Makes(g); len(l) != 0 {
		t.Errorf("Makes(%s) = %v", short(g), l)
	}
	isLost(t, g, -1)
	isVain(t, g, -1)
}

// P11.1, P11.2: the chapter's examples.
func TestExamples(t *testing.T) {
	g := gramOf(t, `a = "x"; b = a;`)
	isLost(t, g, 1)
	isVain(t, g, -1)
	areWithin(t, g, 0)
	areWithin(t, g, 1, 0)
	haveTexts(t, g, 0, 1)
	g = gramOf(t, `a = a "x";`)
	isLost(t, g, -1)
	isVain(t, g, 0)
	areWithin(t, g, 0, 0)
	haveTexts(t, g)
}

// P11.1: who is within each: nobody, itself, by itself and by others, by one and by several.
func TestFrom(t *testing.T) {
	for _, c := range []struct {
		s    string
		want [][]int
	}{
		// Nobody is within one without another one.
		{`a = ;`, [][]int{nil}}, {`a = "x" | [a-z] | <00-ff> | [] | <>;`, [][]int{nil}}, {`a = "x"; b = "y"; c = ;`, [][]int{nil, nil, nil}},
		// Itself, wherever it stands, and with others.
		{`a = a;`, [][]int{{0}}}, {`a = "x" a;`, [][]int{{0}}}, {`a = "y" | "x" a "x";`, [][]int{{0}}}, {`a = a a | a;`, [][]int{{0}}}, {`a = "x"; b = b;`, [][]int{nil, {1}}}, {`a = b; b = "x" | b;`, [][]int{{1}, {1}}},
		// Itself by others, by one and by several.
		{`a = b; b = a;`, [][]int{{0, 1}, {0, 1}}}, {`a = b; b = c; c = "x" a;`, [][]int{{0, 1, 2}, {0, 1, 2}, {0, 1, 2}}}, {`a = b; b = c; c = b;`, [][]int{{1, 2}, {1, 2}, {1, 2}}}, {`a = c; b = a; c = b | d; d = ;`, [][]int{{0, 1, 2, 3}, {0, 1, 2, 3}, {0, 1, 2, 3}, nil}},
		// A symbol, and within one that is, wherever it stands: also behind what is not empty, behind what no text is of, and of any alternative.
		{`a = b; b = c; c = "x";`, [][]int{{1, 2}, {2}, nil}}, {`a = "x" b "y"; b = [a] [b] c; c = ;`, [][]int{{1, 2}, {2}, nil}}, {`a = <> b | [] c; b = ; c = ;`, [][]int{{1, 2}, nil, nil}}, {`a = "x" | "y" | | b; b = ;`, [][]int{{1}, nil}},
		{`a = b c d; b = "x"; c = "x"; d = "x";`, [][]int{{1, 2, 3}, nil, nil, nil}}, {`a = b | c | d; b = "x"; c = "x"; d = e; e = ;`, [][]int{{1, 2, 3, 4}, nil, nil, {4}, nil}}, {`a = b b c; b = b b; c = b "x" b;`, [][]int{{1, 2}, {1}, {1}}},
		// Within several, and within one by several.
		{`a = c; b = c; c = ;`, [][]int{{2}, {2}, nil}}, {`a = b c; b = d; c = d; d = "x";`, [][]int{{1, 2, 3}, {3}, {3}, nil}}, {`a = b | c | d; b = d; c = d b; d = d;`, [][]int{{1, 2, 3}, {3}, {1, 3}, {3}}},
		// Not those within which it is.
		{`a = b; b = ; c = a; d = c b;`, [][]int{{1}, nil, {0, 1}, {0, 1, 2}}}, {`a = "x"; b = a; c = b; d = c; e = d;`, [][]int{nil, {0}, {0, 1}, {0, 1, 2}, {0, 1, 2, 3}}},
		// Two that are apart.
		{`a = b; b = a; c = d; d = c;`, [][]int{{0, 1}, {0, 1}, {2, 3}, {2, 3}}}, {`a = c; b = d; c = "x"; d = "x";`, [][]int{{2}, {3}, nil, nil}},
		// New nonterminals, of parts of rules.
		{`a = "x"*;`, [][]int{{1}, {1}}}, {`a = "x"?; b = a+;`, [][]int{{2}, {0, 2, 3}, nil, {0, 2, 3}}}, {`a = ("x" | b)?; b = ("y" | "z") a;`, [][]int{{0, 1, 2, 3, 4}, {0, 1, 2, 3, 4}, {0, 1, 2, 3, 4}, {0, 1, 2, 3, 4}, nil}},
		// Marks, and what may not follow, are let be.
		{`% "if"; @long @res @sync a = b / [A]; @off @block b = "x" c / [a-z]; @align c = "z";`, [][]int{{1, 2}, {2}, nil}},
	} {
		g := gramOf(t, c.s)
		for n, want := range c.want {
			areWithin(t, g, n, want...)
		}
		if len(c.want) != len(g.P) {
			t.Errorf("%s: %d nonterminals", c.s, len(g.P))
		}
	}
}

// P11.1: nothing is within what is no nonterminal: below the first one, and behind the last one.
func TestFromNone(t *testing.T) {
	for _, s := range []string{`a = a;`, `a = b; b = c a; c = a "x";`, `a = "x"*;`} {
		g := gramOf(t, s)
		many := len(g.P)
		for _, n := range []int{0, many - 1} {
			areWithin(t, g, n, those(ownFrom(g, n))...)
		}
		for _, n := range []int{-1, -2, -many, many, many + 1, api.MaxNon, math.MinInt, math.MaxInt, 1 << 32} {
			if l := reach.From(g, n); len(l) != 0 {
				t.Errorf("From(%s, %d) = %v", s, n, l)
			}
		}
	}
	full := api.Gram{P: slices.Repeat([]api.Prod{prod(nons(0, 59))}, api.MaxNon)}
	areWithin(t, full, 0, 0, 59)
	areWithin(t, full, 59, 0, 59)
	if len(reach.From(full, 60)) != 0 || len(reach.From(full, -1)) != 0 {
		t.Error("what is no nonterminal of 60 has some within")
	}
}

// P11.1: of whom there is a text: by which alternative, by one and by several, and by one another.
func TestMakes(t *testing.T) {
	for _, c := range []struct {
		s    string
		want []int
	}{
		// An alternative without a symbol.
		{`a = ;`, []int{0}}, {`a = <> | ;`, []int{0}}, {`a = | a;`, []int{0}}, {`a = a | [];`, nil},
		// Sets that are empty, or not, and one that is among others.
		{`a = "x";`, []int{0}}, {`a = <00>;`, []int{0}}, {`a = <ff>;`, []int{0}}, {`a = <>;`, nil}, {`a = [a];`, []int{0}}, {`a = [];`, nil}, {`a = [^];`, []int{0}}, {`a = "x" <> "y";`, nil}, {`a = [] "x";`, nil}, {`a = "x" "y" [];`, nil}, {`a = <00> [a] "x";`, []int{0}},
		// By a later alternative alone, and by an early one.
		{`a = <> | [] | "x";`, []int{0}}, {`a = a | a "x" | <> | "y";`, []int{0}}, {`a = "y" | a | <>;`, []int{0}}, {`a = b | c; b = b; c = "x";`, []int{0, 2}}, {`a = b c | c; b = []; c = ;`, []int{0, 2}}, {`a = [] | b | <> c | ; b = a; c = b c;`, []int{0, 1}},
		// By others, ahead and behind, by all symbols of an alternative.
		{`a = b; b = "x";`, []int{0, 1}}, {`a = "x"; b = a;`, []int{0, 1}}, {`a = b c d; b = "x"; c = ; d = [a];`, []int{0, 1, 2, 3}}, {`a = b c d; b = <>; c = ; d = [a];`, []int{2, 3}}, {`a = b c d; b = "x"; c = <>; d = [a];`, []int{1, 3}}, {`a = b c d; b = "x"; c = ; d = [];`, []int{1, 2}},
		{`a = c b; b = ; c = b;`, []int{0, 1, 2}}, {`a = "x" b "y" [a]; b = "z" c; c = ;`, []int{0, 1, 2}}, {`a = "x" b "y" []; b = "z" c; c = ;`, []int{1, 2}},
		// By itself alone, and by one another alone, there is none.
		{`a = a;`, nil}, {`a = a a | a;`, nil}, {`a = "x" a;`, nil}, {`a = b; b = a;`, nil}, {`a = b; b = c "x"; c = a;`, nil}, {`a = "x" b | c; b = a c; c = "y" a | b;`, nil}, {`a = b c; b = "x"; c = a;`, []int{1}},
		// One of these has one by something else, and by it all, or some.
		{`a = a | "x";`, []int{0}}, {`a = b; b = a | "x";`, []int{0, 1}}, {`a = b; b = c "x"; c = a | ;`, []int{0, 1, 2}}, {`a = "x" b | c; b = a c; c = "y" a | b | "z";`, []int{0, 1, 2}}, {`a = b c; b = a | "x"; c = a;`, []int{1}}, {`a = b; b = a; c = a | "x"; d = c b;`, []int{2}},
		// Parts of which new nonterminals are made.
		{`a = []*;`, []int{0, 1}}, {`a = []+;`, nil}, {`a = []?;`, []int{0, 1}}, {`a = ("x" | []) <>?;`, []int{0, 1, 2}}, {`a = ([] | <>) "x";`, nil}, {`a = "x"+ b*; b = a b;`, []int{0, 2, 3}},
		// Marks, and what may not follow, are let be.
		{`% "x"; @long @res @sync a = b "x" / [^]; @off @block b = "x" / [a-z]; @align @off c = c;`, []int{0, 1}},
	} {
		g := gramOf(t, c.s)
		haveTexts(t, g, c.want...)
		vain := -1
		for n := len(g.P) - 1; n >= 0; n-- {
			if !slices.Contains(c.want, n) {
				vain = n
			}
		}
		isVain(t, g, vain)
	}
}

// P11.1: of a Scal there is a text if some scalar is of its set, whatever else is of it; of a Byte if some number is.
func TestSets(t *testing.T) {
	const first, last, most = 55296, 57343, api.MaxScalar
	for _, c := range []struct {
		s   api.Sym
		has bool
	}{
		{setOf(api.Byte), false}, {api.Sym{R: []api.Range{}}, false}, {setOf(api.Byte, 0, 0), true}, {setOf(api.Byte, 255, 255), true}, {setOf(api.Byte, 0, 255), true}, {setOf(api.Byte, 7, 8, 128, 128), true},
		{setOf(api.Scal), false}, {api.Sym{Kind: api.Scal, R: []api.Range{}}, false}, {setOf(api.Scal, 0, 0), true}, {setOf(api.Scal, most, most), true}, {setOf(api.Scal, 0, most), true}, {setOf(api.Scal, 'a', 'z'), true}, {setOf(api.Scal, 255, 256), true},
		// All that are no scalars, and parts of them.
		{setOf(api.Scal, first, last), false}, {setOf(api.Scal, first, first), false}, {setOf(api.Scal, last, last), false}, {setOf(api.Scal, 56000, 56500), false}, {setOf(api.Scal, first, first, last, last), false}, {setOf(api.Scal, first, 56000, 56002, 56002, 56319, last), false},
		// These and a scalar, ahead of them, behind them, and both.
		{setOf(api.Scal, first-1, first-1), true}, {setOf(api.Scal, last+1, last+1), true}, {setOf(api.Scal, first-1, first), true}, {setOf(api.Scal, last, last+1), true}, {setOf(api.Scal, first-1, last), true}, {setOf(api.Scal, first, last+1), true}, {setOf(api.Scal, first-1, last+1), true},
		{setOf(api.Scal, 0, 0, first, last), true}, {setOf(api.Scal, first, last, most, most), true}, {setOf(api.Scal, first, 56000, 56002, last, 60000, 60000), true}, {setOf(api.Scal, 9, 9, first, last, most, most), true}, {setOf(api.Scal, 56000, 60000), true}, {setOf(api.Scal, 50000, 56000), true},
	} {
		for _, a := range [][]api.Sym{{c.s}, {c.s, c.s}, {setOf(api.Scal, 'a', 'a'), c.s}, {c.s, setOf(api.Byte, 9, 9)}} {
			g := api.Gram{P: []api.Prod{prod(a), prod(nons(0, 0))}}
			if c.has {
				haveTexts(t, g, 0, 1)
				isVain(t, g, -1)
			} else {
				haveTexts(t, g)
				isVain(t, g, 0)
			}
			// One without is let be where another alternative has one.
			g.P[0].A = append(g.P[0].A, nil)
			haveTexts(t, g, 0, 1)
		}
	}
	// A Byte of such numbers may not be, so that nothing is told.
	for _, s := range []api.Sym{setOf(api.Byte, first, last), setOf(api.Byte, first, first), setOf(api.Byte, 0, last), setOf(api.Byte, 256, 256), setOf(api.Byte, 0, 0, first, last)} {
		tellNothing(t, api.Gram{P: []api.Prod{prod([]api.Sym{s})}})
	}
}

// P11.2: who is lost: none, the first behind 0, the last one, the least of several; 0 never is.
func TestLost(t *testing.T) {
	for _, c := range []struct {
		s    string
		want int
	}{
		{`a = "x";`, -1}, {`a = a;`, -1}, {`a = b; b = "x";`, -1}, {`a = b; b = a;`, -1}, {`a = "x" b | c; b = d; c = ; d = [] ;`, -1}, {`a = c; b = "x"; c = b;`, -1}, {`a = d; b = "x"; c = b; d = "y" c;`, -1},
		{`a = ; b = ;`, 1}, {`a = "x"; b = a;`, 1}, {`a = c; b = a; c = ;`, 1}, {`a = c; b = b; c = a d; d = ;`, 1},
		{`a = b; b = c; c = a; d = ;`, 3}, {`a = b c; b = ; c = ; d = a b c d;`, 3},
		{`a = "x"; b = ; c = ; d = ;`, 1}, {`a = b; b = ; c = ; d = ;`, 2}, {`a = d; b = c; c = b; d = ; e = ;`, 1}, {`a = a d; b = d; c = ; d = b; e = c; f = e;`, 2}, {`a = b e; b = ; c = d; d = c; e = ; f = ;`, 2},
		// Also if there is no text of those by which it is come to.
		{`a = [] b; b = <> c; c = c;`, -1},
		// New nonterminals stand behind the rules'.
		{`a = "x"*; b = "y"*;`, 1}, {`a = b; b = "x"; c = "y"?;`, 2}, {`a = "x"+ b?; b = "y"*;`, -1},
	} {
		isLost(t, gramOf(t, c.s), c.want)
	}
	// Rules that are all come to, and a new one that nobody has.
	g := gramOf(t, `a = b* "y"; b = "x";`)
	g.P[0].A[0][0].N = 1
	isLost(t, g, 2)
}

// P11.2: of whom there is no text: none, 0, the last one, the least of several.
func TestVain(t *testing.T) {
	for _, c := range []struct {
		s    string
		want int
	}{
		{`a = ;`, -1}, {`a = b; b = a | "x";`, -1}, {`a = b; b = c; c = "x" | c a;`, -1}, {`a = "x"; b = [a];`, -1},
		{`a = <>;`, 0}, {`a = a;`, 0}, {`a = b; b = a;`, 0}, {`a = a b; b = "x";`, 0}, {`a = "x" a; b = ; c = ;`, 0}, {`a = b; b = c; c = [];`, 0},
		{`a = "x"; b = b;`, 1}, {`a = "x" | b; b = "y"; c = c "z";`, 2}, {`a = b | ; b = | c; c = "x" | d; d = b d;`, 3},
		{`a = a; b = b; c = c;`, 0}, {`a = ; b = b; c = ; d = d;`, 1}, {`a = "x"; b = "y"; c = d; d = e; e = c; f = "x"; g = [];`, 2}, {`a = | d; b = a; c = [] b; d = c;`, 2}, {`a = "x"+ ; b = <>+; c = []+;`, 1},
		// Also if it is lost.
		{`a = "x"; b = ; c = [];`, 2},
		// New nonterminals stand behind the rules'.
		{`a = "x" | ([] | a <>) "y"; b = "z";`, 2}, {`a = ("x"? | []+);`, 2},
	} {
		isVain(t, gramOf(t, c.s), c.want)
	}
}

// chain is nonterminals of which each has the one of the next number in order, and the last one in order is of an alternative.
func chain(order []int, last []api.Sym) api.Gram {
	g := api.Gram{P: make([]api.Prod, len(order))}
	for i, n := range order {
		if i+1 < len(order) {
			g.P[n] = prod(append(x(), nons(order[i+1])...))
		} else {
			g.P[n] = prod(last)
		}
	}
	return g
}

// P11.1, P11.2: chains of up to 60, in order and against it, with a text at the end and without, closed and broken.
func TestChains(t *testing.T) {
	for _, many := range []int{1, 2, 3, 10, 59, 60} {
		up := upTo(many)
		down := slices.Clone(up)
		slices.Reverse(down)
		for _, order := range [][]int{up, down} {
			g := chain(order, nil)
			haveTexts(t, g, up...)
			isVain(t, g, -1)
			haveTexts(t, chain(order, []api.Sym{setOf(api.Scal)}))
			isVain(t, chain(order, []api.Sym{setOf(api.Scal, 55296, 57343)}), 0)
			for i, n := range order {
				areWithin(t, g, n, slices.Sorted(slices.Values(order[i+1:]))...)
			}
			// Closed, each is within each, and there is no text.
			ring := chain(order, nons(order[0]))
			for n := range ring.P {
				areWithin(t, ring, n, up...)
			}
			haveTexts(t, ring)
			isLost(t, ring, -1)
			// Broken in the middle, those ahead of that have none, and have none within them that stand behind.
			middle := many / 2
			g.P[order[middle]] = prod([]api.Sym{setOf(api.Byte)})
			haveTexts(t, g, slices.Sorted(slices.Values(order[middle+1:]))...)
			areWithin(t, g, order[0], slices.Sorted(slices.Values(order[1:middle+1]))...)
		}
		isLost(t, chain(up, nil), -1)
		if many > 1 {
			isLost(t, chain(down, nil), 1)
		}
	}
}

// P11.1, P11.2: 60 nonterminals, as many alternatives and symbols as there may be, at each of which one is lost, or vain.
func TestFull(t *testing.T) {
	const many = api.MaxNon
	all := upTo(many)
	full := func() api.Gram {
		var g api.Gram
		for n := range many {
			l := append(slices.Repeat(nons(many-1), api.MaxSym-1), nons((n+1)%many)...)
			g.P = append(g.P, prod(slices.Repeat([][]api.Sym{l}, api.MaxAlt)...))
		}
		return g
	}
	g := full()
	haveTexts(t, g)
	isLost(t, g, -1)
	for n := range many {
		areWithin(t, g, n, all...)
	}
	g.P[many-1].A = slices.Clone(g.P[many-1].A)
	g.P[many-1].A[api.MaxAlt-1] = nil
	haveTexts(t, g, all...)
	isVain(t, g, -1)
	for one := range many {
		g := api.Gram{P: slices.Repeat([]api.Prod{prod(nil)}, many)}
		isVain(t, g, -1)
		g.P[one] = prod(nons(one), slices.Repeat(nons(0), api.MaxSym), []api.Sym{setOf(api.Byte)})
		if one > 0 {
			g.P[one].A[1] = append(nons(0), setOf(api.Scal))
		}
		isVain(t, g, one)
		// 0 has all but one, at the end of whose last alternative stands the next one, and in the middle the others.
		others := slices.Delete(upTo(many), one, one+1)
		g = api.Gram{P: slices.Repeat([]api.Prod{prod(x())}, many)}
		g.P[0] = prod(nil, nons(others[:api.MaxSym]...), nons(others[api.MaxSym:]...))
		lost := one
		if one == 0 {
			lost = -1
		}
		isLost(t, g, lost)
		areWithin(t, g, 0, others...)
	}
}

// P11.1, P11.2, R4: of nonterminals that may not be nothing is told, whatever else is right.
func TestWrongNonterminals(t *testing.T) {
	right := func() api.Gram {
		return api.Gram{P: []api.Prod{prod(nil), prod(nons(0, 1), nons(1))}}
	}
	areWithin(t, right(), 1, 0, 1)
	haveTexts(t, right(), 0)
	isLost(t, right(), 1)
	isVain(t, right(), 1)
	byteOf := func(lo, hi int) []api.Sym { return []api.Sym{setOf(api.Byte, lo, hi)} }
	for i, wear := range []func(g *api.Gram){
		func(g *api.Gram) { g.P = nil }, func(g *api.Gram) { g.P = []api.Prod{} }, func(g *api.Gram) { g.P = slices.Repeat([]api.Prod{prod(nil)}, 61) }, func(g *api.Gram) { g.P = append(g.P, slices.Repeat([]api.Prod{prod(nons(1))}, 59)...) }, func(g *api.Gram) { g.P = append(g.P, api.Prod{}) },
		func(g *api.Gram) { g.P[0].A = nil }, func(g *api.Gram) { g.P[0].A = [][]api.Sym{} }, func(g *api.Gram) { g.P[1].A = make([][]api.Sym, 9) }, func(g *api.Gram) { g.P[1].A[0] = slices.Repeat(nons(0), 41) },
		func(g *api.Gram) { g.P[0].Marks = -1 }, func(g *api.Gram) { g.P[1].Marks = 64 }, func(g *api.Gram) { g.P[1].Not = []api.Range{{Lo: 2, Hi: 1}} }, func(g *api.Gram) { g.P[0].Not = []api.Range{{Lo: 1, Hi: 2}, {Lo: 3, Hi: 4}} },
		func(g *api.Gram) { g.P[1].A[0] = nons(2) }, func(g *api.Gram) { g.P[1].A[0] = nons(-1) }, func(g *api.Gram) { g.P[1].A[0] = nons(0, 1, math.MaxInt) }, func(g *api.Gram) { g.P[0].A = append(g.P[0].A, nons(60)) }, func(g *api.Gram) { g.P[0].A[0] = nons(math.MinInt) },
		func(g *api.Gram) { g.P[1].A[0][0].R = []api.Range{{Lo: 1, Hi: 1}} }, func(g *api.Gram) { g.P[1].A[0][0].Kind = 3 }, func(g *api.Gram) { g.P[1].A[0][1].Kind = -1 }, func(g *api.Gram) { g.P[1].A[0] = []api.Sym{{Kind: api.Byte, N: 1}} }, func(g *api.Gram) { g.P[1].A[0] = []api.Sym{{Kind: api.Scal, N: 1}} },
		func(g *api.Gram) { g.P[1].A = append(g.P[1].A, byteOf(0, 256)) }, func(g *api.Gram) { g.P[1].A = append(g.P[1].A, byteOf(5, 4)) }, func(g *api.Gram) { g.P[1].A = append(g.P[1].A, byteOf(-1, 4)) },
		func(g *api.Gram) { g.P[0].A[0] = []api.Sym{setOf(api.Scal, 0, api.MaxScalar+1)} }, func(g *api.Gram) { g.P[0].A[0] = []api.Sym{setOf(api.Scal, 9, 8)} }, func(g *api.Gram) { g.P[0].A[0] = []api.Sym{setOf(api.Scal, 1, 2, 3, 4)} },
	} {
		g := right()
		wear(&g)
		if flat.May(g) {
			t.Errorf("worn %d: %s may be", i, short(g))
		}
		tellNothing(t, g)
	}
}
