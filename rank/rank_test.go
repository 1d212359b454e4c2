package rank_test

import (
	"fmt"
	"math"
	"slices"
	"testing"

	"exegete/api"
	"exegete/flat"
	"exegete/rank"
	"exegete/read"
)

// The calls have the signatures of the chapter.
var (
	_ func(g api.Gram) ([]int, bool) = rank.Order
	_ func(g api.Gram) int           = rank.Circle
	_ func(l []int) []int            = rank.First
)

// gramOf is the nonterminals of a grammar's text.
func gramOf(t *testing.T, s string) api.Gram {
	t.Helper()
	f, at, e := read.File(s)
	if e != api.OK {
		t.Fatalf("%s is not read: %d, %d", s, at, e)
	}
	g, at, e := flat.Of(f)
	if e != api.OK {
		t.Fatalf("%s is not made: %d, %d", s, at, e)
	}
	return g
}

// nons is symbols that are nonterminals.
func nons(l ...int) []api.Sym {
	var out []api.Sym
	for _, n := range l {
		out = append(out, api.Sym{Kind: api.Non, N: n})
	}
	return out
}

func prod(a ...[]api.Sym) api.Prod {
	return api.Prod{A: a}
}

// short is a thing's beginning, so that a failure can be read.
func short(x any) string {
	s := fmt.Sprintf("%+v", x)
	return s[:min(len(s), 600)]
}

// hasOrder fails the test if another order is told, or a circle.
func hasOrder(t *testing.T, g api.Gram, want ...int) {
	t.Helper()
	if l, is := rank.Order(g); !is || !slices.Equal(l, want) {
		t.Errorf("Order(%s) = %v, %v; want %v", short(g), l, is, want)
	}
	if n := rank.Circle(g); n != -1 {
		t.Errorf("Circle(%s) = %d; want -1", short(g), n)
	}
}

// hasCircle fails the test if an order is told, or another least nonterminal that comes to itself.
func hasCircle(t *testing.T, g api.Gram, want int) {
	t.Helper()
	if l, is := rank.Order(g); is || len(l) != 0 {
		t.Errorf("Order(%s) = %v, %v; want none", short(g), l, is)
	}
	if n := rank.Circle(g); n != want {
		t.Errorf("Circle(%s) = %d; want %d", short(g), n, want)
	}
}

// P10.2: the chapter's example.
func TestExample(t *testing.T) {
	hasOrder(t, gramOf(t, `a = b; b = "x";`), 1, 0)
}

// P10.1: no numbers, one, several of one, rising, falling and mixed ones, the least and the greatest; what is handed in stays.
func TestFirst(t *testing.T) {
	for _, c := range []struct{ l, want []int }{
		{nil, nil}, {[]int{}, nil}, {[]int{0}, []int{0}}, {[]int{-5}, []int{-5}}, {[]int{math.MaxInt}, []int{math.MaxInt}},
		{[]int{2, 2}, []int{2, 2}}, {[]int{7, 7, 7, 7}, []int{7, 7, 7, 7}}, {[]int{1, 2, 1, 2, 1}, []int{1, 1, 1, 2, 2}}, {[]int{3, -1, 3, 2}, []int{-1, 2, 3, 3}}, {[]int{0, 0, -1, -1, 0}, []int{-1, -1, 0, 0, 0}},
		{[]int{1, 2, 3, 4, 5}, []int{1, 2, 3, 4, 5}}, {[]int{5, 4, 3, 2, 1}, []int{1, 2, 3, 4, 5}}, {[]int{2, 1}, []int{1, 2}}, {[]int{1, 2}, []int{1, 2}}, {[]int{4, 1, 5, 2, 3, 0}, []int{0, 1, 2, 3, 4, 5}}, {[]int{1, 2, 0}, []int{0, 1, 2}},
		{[]int{math.MaxInt, math.MinInt}, []int{math.MinInt, math.MaxInt}}, {[]int{0, math.MaxInt, -1, math.MinInt, 1, math.MinInt, math.MaxInt}, []int{math.MinInt, math.MinInt, -1, 0, 1, math.MaxInt, math.MaxInt}},
		{[]int{math.MinInt + 1, math.MinInt, math.MaxInt - 1, math.MaxInt}, []int{math.MinInt, math.MinInt + 1, math.MaxInt - 1, math.MaxInt}}, {[]int{1 << 40, 1 << 41, -1 << 40, 1, -1 << 41}, []int{-1 << 41, -1 << 40, 1, 1 << 40, 1 << 41}},
	} {
		l := slices.Clone(c.l)
		if out := rank.First(l); !slices.Equal(out, c.want) {
			t.Errorf("First(%v) = %v; want %v", c.l, out, c.want)
		}
		if !slices.Equal(l, c.l) {
			t.Errorf("First(%v) makes it %v", c.l, l)
		}
	}
}

// P10.1: many numbers, rising, falling, and all of one.
func TestFirstOfMany(t *testing.T) {
	const many = 3000
	var rising, falling, same []int
	for n := range many {
		rising, falling, same = append(rising, n-many/2), append(falling, many/2-1-n), append(same, 5)
	}
	for _, l := range [][]int{rising, falling, slices.Concat(rising[many/3:], rising[:many/3])} {
		if out := rank.First(l); !slices.Equal(out, rising) {
			t.Errorf("First(%s) = %s", short(l), short(out))
		}
	}
	if out := rank.First(same); !slices.Equal(out, same) {
		t.Errorf("First of %d fives = %s", many, short(out))
	}
}

// P10.2: who stands ahead of whom, and who is next of several who may be.
func TestOrder(t *testing.T) {
	for _, c := range []struct {
		s    string
		want []int
	}{
		// One, which begins by nobody: by nothing, a byte, a scalar, also by none of these, and by several of them.
		{`a = ;`, []int{0}}, {`a = "x";`, []int{0}}, {`a = [a-z];`, []int{0}}, {`a = <00-ff>;`, []int{0}}, {`a = [] | <>;`, []int{0}}, {`a = | "x" | [a] | <ff>;`, []int{0}},
		// What begins by a byte, or a scalar, is nobody's left, whoever stands behind that.
		{`a = "x" a;`, []int{0}}, {`a = [a-z] a | <80> a;`, []int{0}}, {`a = "x" b; b = "y" a;`, []int{0, 1}}, {`a = [x] b; b = c "y" a; c = ;`, []int{0, 2, 1}}, {`a = [] a;`, []int{0}}, {`a = <> b; b = [] a;`, []int{0, 1}},
		// Behind one that is not empty nobody is a left; behind one that is, one is.
		{`a = b b a; b = "x";`, []int{1, 0}}, {`a = b c; b = "x"; c = a;`, []int{1, 0, 2}}, {`a = b c; b = "x"; c = "y";`, []int{1, 0, 2}}, {`a = b c; b = "x" | ; c = "y";`, []int{1, 2, 0}}, {`a = b "x" c; b = ; c = ;`, []int{1, 0, 2}}, {`a = b c a | c; b = | "x"; c = "z";`, []int{1, 2, 0}},
		// Several that may be next: the least one is, as soon as it may be.
		{`a = ; b = ; c = ;`, []int{0, 1, 2}}, {`a = "x"; b = a; c = b a; d = ;`, []int{0, 1, 2, 3}}, {`a = d; b = "x"; c = "x"; d = "x";`, []int{1, 2, 3, 0}}, {`a = c; b = ; c = ; d = ;`, []int{1, 2, 0, 3}}, {`a = e; b = d; c = ; d = ; e = ;`, []int{2, 3, 1, 4, 0}}, {`a = c; b = e; c = f; d = ; e = ; f = ;`, []int{3, 4, 1, 5, 2, 0}},
		{`a = d; b = d; c = d; d = ;`, []int{3, 0, 1, 2}}, {`a = f; b = f; c = "x"; d = f; e = "x"; f = "x";`, []int{2, 4, 5, 0, 1, 3}}, {`a = b; b = d; c = ; d = ;`, []int{2, 3, 1, 0}}, {`a = d; b = "x"; c = b; d = c;`, []int{1, 2, 3, 0}},
		{`a = e; b = a; c = d; d = ; e = ;`, []int{3, 2, 4, 0, 1}},
		// One that waits for several, by one alternative and by several: till the last one of them is there.
		{`a = b | c | d; b = ; c = ; d = ;`, []int{1, 2, 3, 0}}, {`a = b c d; b = ; c = ; d = ; e = ;`, []int{1, 2, 3, 0, 4}}, {`a = "x" | d | b; b = c; c = e; d = ; e = ;`, []int{3, 4, 2, 1, 0}}, {`a = "x" a | b; b = c c; c = | "y" a;`, []int{2, 1, 0}},
		// One that is a left of several, and one that is a left more than once.
		{`a = c; b = c; c = "x";`, []int{2, 0, 1}}, {`a = b b b; b = ;`, []int{1, 0}}, {`a = b | b | b "x"; b = "y";`, []int{1, 0}}, {`a = b b | c b; b = c c | c; c = ;`, []int{2, 1, 0}}, {`a = b | c; b = d | d; c = d d; d = | d1; d1 = "x";`, []int{4, 3, 1, 2, 0}},
		// New nonterminals, of parts of rules, stand behind the rules', and may be ahead in the order.
		{`a = "x"* ;`, []int{1, 0}}, {`a = ("x" | b) c; b = "y"; c = a1? "z"; a1 = ;`, []int{1, 3, 4, 0, 5, 2}}, {`a = "x"+ "y"*; b = a;`, []int{2, 0, 1, 3}}, {`a = "x"? b*; b = "z" a;`, []int{1, 2, 3, 0}},
		// Marks, and what may not follow, are let be.
		{`% "if"; @long @res @sync a = b / [A]; @off @block b = "x" / [a-z]; @align c = b a;`, []int{1, 0, 2}},
	} {
		hasOrder(t, gramOf(t, c.s), c.want...)
	}
}

// P10.2: who comes to itself, by itself and by others, and who is the least of several.
func TestCircle(t *testing.T) {
	for _, c := range []struct {
		s    string
		want int
	}{
		// By itself, first or last of its alternatives, and behind empty ones.
		{`a = a;`, 0}, {`a = a "x" | "y";`, 0}, {`a = "y" | a "x";`, 0}, {`a = a a;`, 0}, {`a = | a;`, 0}, {`a = b a; b = ;`, 0}, {`a = b b b a "x" | "y"; b = "z" | ;`, 0}, {`a = b; b = b;`, 1}, {`a = "x" | a1; a1 = "y" | a2 a1; a2 = |"z";`, 1},
		{`a = "x"; b = c d; c = ; d = d;`, 3}, {`a = a | ;`, 0}, {`a = b a | "x"; b = a | ;`, 0},
		// By others: by one, by several, and behind empty ones.
		{`a = b; b = a;`, 0}, {`a = b; b = c a; c = ;`, 0}, {`a = b "x"; b = c "y"; c = a "z" | "x";`, 0}, {`a = c b; b = c c a | "x"; c = | "y";`, 0}, {`a = b c; b = ; c = d "x"; d = b b a;`, 0}, {`a = b; b = c; c = d; d = e; e = f; f = a;`, 0},
		{`a = b c; b = "x" | ; c = a;`, 0}, {`a = b c; b = "x"; c = a | c;`, 2},
		// One that comes to a circle is not in one: the least that is is told.
		{`a = b; b = c; c = c;`, 2}, {`a = b; b = c; c = b;`, 1}, {`a = b | c; b = "x"; c = d; d = e; e = d; f = a;`, 3}, {`a = d; b = d; c = d; d = d "x";`, 3}, {`a = c c; b = a; c = d | ; d = c "x";`, 2},
		// One that a circle comes to is not in one either.
		{`a = "x"; b = a | c; c = b | a;`, 1}, {`a = "x"; b = "y"; c = a | b | d; d = c;`, 2}, {`a = ; b = ; c = a b c;`, 2}, {`a = c; b = c | b; c = "x";`, 1},
		// Between two circles, in neither.
		{`a = "x"; b = c; c = d | c; d = e; e = e;`, 2}, {`a = b; b = c; c = d; d = c | e; e = f; f = e;`, 2}, {`a = "y"; b = c; c = d; d = d;`, 3},
		// Several circles, the least one's least is told, wherever the others are, and whoever is come to first.
		{`a = a; b = b; c = c;`, 0}, {`a = "x"; b = b; c = c;`, 1}, {`a = d; b = c; c = b; d = d;`, 1}, {`a = e; b = d; c = "x"; d = b; e = e;`, 1}, {`a = f; b = "x"; c = d; d = e; e = c; f = f;`, 2}, {`a = e; b = c; c = c; d = e; e = d;`, 2},
		{`a = c; b = "x" | b1; b1 = b; c = d; d = c;`, 1}, {`a = d; b = d; c = e; d = e | d; e = "x" | c "y";`, 2},
		// A circle of those behind, and of those ahead of all others.
		{`a = "x"; b = "x"; c = a b; d = c; e = f; f = e;`, 4}, {`a = b; b = a; c = "x"; d = "x"; e = c d;`, 0}, {`a = b; b = "x"; c = d; d = c; e = f; f = "x";`, 2},
		// By parts of which new nonterminals are made.
		{`a = ("x"?)*;`, 1}, {`a = ("x"*)+;`, 1}, {`a = b* a; b = "x";`, 0}, {`a = (b | "y") "x"; b = a? "z";`, 0}, {`a = b+; b = "x"?;`, 2}, {`a = "x" (b | "y"); b = (b "z")? ;`, 1}, {`a = "x"? (a | "y");`, 0},
	} {
		hasCircle(t, gramOf(t, c.s), c.want)
	}
}

// chain is so many nonterminals, each of which begins by the next one, or by the one ahead of it; the last one by a byte.
func chain(many, step int) api.Gram {
	var g api.Gram
	for n := range many {
		left := n + step
		if left < 0 || left >= many {
			g.P = append(g.P, prod([]api.Sym{{R: []api.Range{{Lo: 'x', Hi: 'x'}}}}))
		} else {
			g.P = append(g.P, prod(nons(left)))
		}
	}
	return g
}

// upTo are the numbers from 0 on.
func upTo(many int) []int {
	var l []int
	for n := range many {
		l = append(l, n)
	}
	return l
}

// P10.2: chains of up to 60, in order and against it, and with a circle at each place of them.
func TestChains(t *testing.T) {
	for _, many := range []int{1, 2, 3, 10, 59, 60} {
		falling := upTo(many)
		slices.Reverse(falling)
		hasOrder(t, chain(many, 1), falling...)
		hasOrder(t, chain(many, -1), upTo(many)...)
		hasOrder(t, chain(many, 60), upTo(many)...)
		// Of long ones some pairs alone, so that it does not take too long.
		apart := 1 + many/5
		for from := 0; from < many; from += apart {
			for upto := 0; upto <= from; upto += apart {
				// Who is from the one up to the other is in a circle, whichever way the chain goes.
				g := chain(many, -1)
				g.P[upto].A = append(g.P[upto].A, nons(from))
				hasCircle(t, g, upto)
				g = chain(many, 1)
				g.P[from].A = slices.Insert(g.P[from].A, 0, nons(upto))
				hasCircle(t, g, upto)
			}
		}
	}
}

// P10.2: 60 nonterminals, each of which begins by all others that are below it, or above it, by as many alternatives and symbols as there may be.
func TestFull(t *testing.T) {
	below, above := api.Gram{}, api.Gram{}
	for n := range api.MaxNon {
		var down, up api.Prod
		for i := range api.MaxAlt - 1 {
			down.A, up.A = append(down.A, nil), append(up.A, nil)
			for s := range api.MaxSym {
				if left := (s + i*9) % api.MaxNon; left < n {
					down.A[i] = append(down.A[i], nons(left)...)
				} else if left > n {
					up.A[i] = append(up.A[i], nons(left)...)
				}
			}
		}
		// All are empty, so that each symbol may be the first one.
		below.P, above.P = append(below.P, prod(append(down.A, nil)...)), append(above.P, prod(append(up.A, nil)...))
	}
	falling := upTo(api.MaxNon)
	slices.Reverse(falling)
	hasOrder(t, below, upTo(api.MaxNon)...)
	hasOrder(t, above, falling...)
	below.P[17].A[7] = nons(0, 1, 40)
	hasCircle(t, below, 17)
	below.P[17].A[7] = nons(0, 1, 16)
	hasOrder(t, below, upTo(api.MaxNon)...)
	below.P[0].A[7] = nons(59)
	hasCircle(t, below, 0)
	above.P[59].A[0] = nons(59)
	hasCircle(t, above, 59)
}

// P10.2: 60 nonterminals at once of which each may be next, but one that all others wait for, or that waits for all others.
func TestAtOnce(t *testing.T) {
	for first := range api.MaxNon {
		var last, ahead api.Gram
		want := []int{first}
		for n := range api.MaxNon {
			ahead.P, last.P = append(ahead.P, prod(nons(first))), append(last.P, prod([]api.Sym{{Kind: api.Scal}}))
			if n != first {
				want = append(want, n)
			}
		}
		ahead.P[first] = prod(nil)
		hasOrder(t, ahead, want...)
		last.P[first].A = nil
		for _, n := range want[1:] {
			if len(last.P[first].A) < api.MaxAlt {
				last.P[first].A = append(last.P[first].A, nons(n))
			}
		}
		behind := want[min(8, len(want)-1)]
		hasOrder(t, last, slices.Insert(slices.Clone(want[1:]), max(first, behind), first)...)
	}
}

// P10.2, R4: of nonterminals that may not be nothing is told, whatever else is right.
func TestWrongNonterminals(t *testing.T) {
	// The one begins by the other, without a circle, and with one.
	for _, lefts := range []int{0, 1} {
		right := func() api.Gram {
			return api.Gram{P: []api.Prod{prod(nil), prod(nons(0, lefts), nil)}}
		}
		if lefts == 0 {
			hasOrder(t, right(), 0, 1)
		} else {
			hasCircle(t, right(), 1)
		}
		byteOf := func(lo, hi int) []api.Sym { return []api.Sym{{R: []api.Range{{Lo: lo, Hi: hi}}}} }
		for i, wear := range []func(g *api.Gram){
			func(g *api.Gram) { g.P = nil }, func(g *api.Gram) { g.P = []api.Prod{} }, func(g *api.Gram) { g.P = slices.Repeat([]api.Prod{prod(nil)}, 61) }, func(g *api.Gram) { g.P = append(g.P, slices.Repeat([]api.Prod{prod(nons(1))}, 59)...) }, func(g *api.Gram) { g.P = append(g.P, api.Prod{}) },
			func(g *api.Gram) { g.P[0].A = nil }, func(g *api.Gram) { g.P[0].A = [][]api.Sym{} }, func(g *api.Gram) { g.P[1].A = make([][]api.Sym, 9) }, func(g *api.Gram) { g.P[1].A[0] = slices.Repeat(nons(0), 41) },
			func(g *api.Gram) { g.P[0].Marks = -1 }, func(g *api.Gram) { g.P[1].Marks = 64 }, func(g *api.Gram) { g.P[1].Not = []api.Range{{Lo: 2, Hi: 1}} }, func(g *api.Gram) { g.P[0].Not = []api.Range{{Lo: 1, Hi: 2}, {Lo: 3, Hi: 4}} },
			func(g *api.Gram) { g.P[1].A[0] = nons(2) }, func(g *api.Gram) { g.P[1].A[0] = nons(-1) }, func(g *api.Gram) { g.P[1].A[0] = nons(0, 1, math.MaxInt) }, func(g *api.Gram) { g.P[0].A = append(g.P[0].A, nons(60)) }, func(g *api.Gram) { g.P[0].A[0] = nons(math.MinInt) },
			func(g *api.Gram) { g.P[1].A[0][0].R = []api.Range{{Lo: 1, Hi: 1}} }, func(g *api.Gram) { g.P[1].A[0][0].Kind = 3 }, func(g *api.Gram) { g.P[1].A[0][1].Kind = -1 }, func(g *api.Gram) { g.P[1].A[0] = []api.Sym{{Kind: api.Byte, N: 1}} },
			func(g *api.Gram) { g.P[1].A = append(g.P[1].A, byteOf(0, 256)) }, func(g *api.Gram) { g.P[1].A = append(g.P[1].A, byteOf(5, 4)) }, func(g *api.Gram) { g.P[1].A = append(g.P[1].A, byteOf(-1, 4)) },
		} {
			g := right()
			wear(&g)
			if l, is := rank.Order(g); is || len(l) != 0 {
				t.Errorf("worn %d: Order(%s) = %v, %v", i, short(g), l, is)
			}
			if n := rank.Circle(g); n != -1 {
				t.Errorf("worn %d: Circle(%s) = %d", i, short(g), n)
			}
		}
	}
}
