package reach_test

import (
	"math"
	"math/rand"
	"reflect"
	"slices"
	"testing"

	"exegete/api"
	"exegete/flat"
	"exegete/reach"
)

// asOwn fails the test if of nonterminals anything is told that the other reckoning does not.
func asOwn(t *testing.T, g api.Gram) {
	t.Helper()
	for n := -1; n <= len(g.P); n++ {
		if l := reach.From(g, n); !slices.Equal(l, ownFrom(g, n)) {
			t.Fatalf("From(%s, %d) = %v; want %v", short(g), n, l, ownFrom(g, n))
		}
	}
	if l := reach.Makes(g); !slices.Equal(l, ownMakes(g)) {
		t.Fatalf("Makes(%s) = %v; want %v", short(g), l, ownMakes(g))
	}
	if n := reach.Lost(g); n != ownLost(g) {
		t.Fatalf("Lost(%s) = %d; want %d", short(g), n, ownLost(g))
	}
	if n := reach.Vain(g); n != ownVain(g) {
		t.Fatalf("Vain(%s) = %d; want %d", short(g), n, ownVain(g))
	}
}

// chains fails the test if what is within what is within one is not within it, or if one is within by no symbol. It tells how many are within what is within.
func chains(t *testing.T, g api.Gram) int {
	t.Helper()
	told := 0
	within := make([][]bool, len(g.P))
	for n := range g.P {
		within[n] = reach.From(g, n)
	}
	for n := range g.P {
		for _, m := range those(within[n]) {
			for _, k := range those(within[m]) {
				told++
				if !within[n][k] {
					t.Fatalf("%s: %d is within %d, that within %d, but the first not within the last", short(g), k, m, n)
				}
			}
		}
	}
	return told
}

// asTexts fails the test if any others are told to have a text than those of which bytes can be told.
func asTexts(t *testing.T, g api.Gram) {
	t.Helper()
	for n, is := range reach.Makes(g) {
		// The least tree has no nonterminal within itself, so that it has no more levels than there are nonterminals.
		if b, has := ownText(g, n, len(g.P)); has != is {
			t.Fatalf("%d of %s: a text %v, told %v", n, short(g), b, is)
		}
	}
	if l := reach.Makes(g); !slices.Equal(l, ownLeast(g)) {
		t.Fatalf("Makes(%s) = %v; want %v", short(g), l, ownLeast(g))
	}
}

// P11.1, P11.2, P11.3: all three nonterminals of one or two alternatives of at most two symbols, of which some have no text.
func TestAllSmall(t *testing.T) {
	lists := [][]api.Sym{nil, x(), {setOf(api.Byte)}}
	for n := range 3 {
		lists = append(lists, nons(n), append(x(), nons(n)...), append(nons(n), setOf(api.Scal, 55296, 57343)))
		for m := range 3 {
			lists = append(lists, nons(n, m))
		}
	}
	lost, vain := make([]int, 4), make([]int, 4)
	for _, a := range lists {
		for _, b := range lists {
			for _, c := range lists {
				for _, d := range [][]api.Sym{nil, lists[2], nons(0), nons(2, 1)} {
					g := api.Gram{P: []api.Prod{prod(a), prod(b, d), prod(c)}}
					asOwn(t, g)
					chains(t, g)
					asTexts(t, g)
					lost[1+reach.Lost(g)]++
					vain[1+reach.Vain(g)]++
				}
			}
		}
	}
	if lost[1] > 0 || min(lost[0], lost[2], lost[3]) < 500 || slices.Min(vain) < 500 {
		t.Error("few of a sort:", lost, vain)
	}
}

// randomSet is a Byte or a Scal that may be, some of no number, or of no scalar.
func randomSet(r *rand.Rand) api.Sym {
	if r.Intn(2) == 0 {
		return []api.Sym{setOf(api.Byte), setOf(api.Byte, 0, 255), setOf(api.Byte, 'x', 'x', 'z', 'z')}[r.Intn(3)]
	}
	s := api.Sym{Kind: api.Scal}
	for at := 55290 + r.Intn(8); at < 57350 && r.Intn(6) > 0; {
		upto := at + []int{0, 1, 5, 1000, 2500}[r.Intn(5)]
		s.R = append(s.R, api.Range{Lo: at, Hi: upto})
		at = upto + 2 + r.Intn(700)
	}
	return s
}

// randomGram is so many nonterminals that may be, of at most so many alternatives, of at most so many symbols, of which so many a thousand are no nonterminals.
func randomGram(r *rand.Rand, many, alternatives, symbols, dull int) api.Gram {
	g := api.Gram{Keys: []string{"if"}[:r.Intn(2)]}
	for range many {
		p := api.Prod{Marks: r.Intn(64), Not: [][]api.Range{nil, {}, {{Lo: 0, Hi: api.MaxScalar}}}[r.Intn(3)]}
		for range 1 + r.Intn(alternatives) {
			var a []api.Sym
			for range 1 + r.Intn(symbols) {
				if r.Intn(1000) < dull {
					a = append(a, randomSet(r))
				} else {
					a = append(a, nons(r.Intn(many))...)
				}
			}
			p.A = append(p.A, a)
		}
		g.P = append(g.P, p)
	}
	return g
}

// P11.1, P11.2, P11.3: many nonterminals, few and up to 60, are as the other reckoning says.
func TestRandom(t *testing.T) {
	r := rand.New(rand.NewSource(11))
	made, not, within, apart, lost, vain := 0, 0, 0, 0, 0, 0
	for i := range 2000 {
		g := randomGram(r, 1+r.Intn([]int{5, 20, 60}[i%3]), 1+r.Intn(3), 1+r.Intn(3), []int{200, 500, 800}[r.Intn(3)])
		asOwn(t, g)
		chains(t, g)
		many, told, inside := len(g.P), len(those(reach.Makes(g))), len(those(reach.From(g, 0)))
		made, not, within, apart = made+told, not+many-told, within+inside, apart+many-inside
		lost, vain = lost+reach.Lost(g), vain+reach.Vain(g)
	}
	if min(made, not, within, apart) < 5000 || min(lost, vain) < 1000 {
		t.Error("few of a sort:", made, not, within, apart, lost, vain)
	}
	for range 5 {
		asOwn(t, randomGram(r, api.MaxNon, api.MaxAlt, api.MaxSym, 20))
	}
}

// P11.3: what is within what is within is within, by rules by hand and by chance, also of those that have no text.
func TestWithinWithin(t *testing.T) {
	for _, s := range []string{`a = b; b = c; c = d; d = e | ; e = "x";`, `a = b; b = c a; c = d; d = c;`, `a = [] b; b = <> c; c = d "x"; d = d;`, `a = ("x" (b | "y")*)+; b = c?; c = a d; d = ;`} {
		if chains(t, gramOf(t, s)) == 0 {
			t.Error("nothing is within what is within:", s)
		}
	}
	r := rand.New(rand.NewSource(110))
	told := 0
	for range 3000 {
		told += chains(t, randomGram(r, 1+r.Intn(9), 2, 2, 600))
	}
	if told < 10000 {
		t.Error("few are within what is within:", told)
	}
}

// P11.1: there is a text of just those of which bytes can be told.
func TestTexts(t *testing.T) {
	r := rand.New(rand.NewSource(111))
	made, not := 0, 0
	for range 5000 {
		g := randomGram(r, 1+r.Intn(5), 1+r.Intn(2), 1+r.Intn(3), 500)
		asTexts(t, g)
		told := len(those(reach.Makes(g)))
		made, not = made+told, not+len(g.P)-told
	}
	if made < 2000 || not < 2000 {
		t.Error("few of a sort:", made, not)
	}
}

// P11.1, P11.2: marks, what may not follow, and words that are reserved change nothing.
func TestMarks(t *testing.T) {
	for _, s := range []string{`a = b c; b = a | ; c = "x" c;`, `a = "x"; b = a b | []; c = b;`, `a = "x"* b?; b = a+ | <>;`} {
		plain := gramOf(t, s)
		for marks := range 64 {
			for _, not := range [][]api.Range{nil, {{Lo: 'x', Hi: 'x'}}, {{Lo: 0, Hi: api.MaxScalar}}} {
				g := gramOf(t, s)
				g.Keys = []string{"", "x", "\xff"}
				for n := range g.P {
					g.P[n].Marks, g.P[n].Not = marks, not
				}
				haveTexts(t, g, those(reach.Makes(plain))...)
				isLost(t, g, reach.Lost(plain))
				isVain(t, g, reach.Vain(plain))
				for n := range g.P {
					areWithin(t, g, n, those(reach.From(plain, n))...)
				}
			}
		}
	}
}

// roomy is nonterminals with room behind each of their lists, in which something stands.
func roomy(g api.Gram) api.Gram {
	g.P = slices.Concat(g.P, []api.Prod{{Marks: 7}})[:len(g.P)]
	for n := range g.P {
		a := slices.Concat(g.P[n].A, [][]api.Sym{nons(1, 2)})[:len(g.P[n].A)]
		for i := range a {
			a[i] = slices.Concat(a[i], nons(77))[:len(a[i])]
		}
		g.P[n].A = a
	}
	return g
}

// whole is all of the nonterminals' lists, with what stands in the room behind them.
func whole(g api.Gram) api.Gram {
	out := api.Gram{Keys: slices.Clone(g.Keys), P: slices.Clone(g.P[:cap(g.P)])}
	for n := range g.P {
		a := slices.Clone(g.P[n].A[:cap(g.P[n].A)])
		for i := range g.P[n].A {
			a[i] = slices.Clone(a[i][:cap(a[i])])
			for j := range a[i] {
				a[i][j].R = slices.Clone(a[i][j].R)
			}
		}
		out.P[n].A = a
	}
	return out
}

// turn makes each answer of a list the other one, also those in the room behind it.
func turn(l []bool) {
	l = l[:cap(l)]
	for n := range l {
		l[n] = !l[n]
	}
}

// R3, R5: what is handed in stays, and what is answered is the caller's: asked again, it is the same, whatever became of it.
func TestOwnMemory(t *testing.T) {
	r := rand.New(rand.NewSource(112))
	for range 500 {
		g := roomy(randomGram(r, 1+r.Intn(20), 2, 3, 400))
		before := whole(g)
		makes := reach.Makes(g)
		told, lost, vain := slices.Clone(makes), reach.Lost(g), reach.Vain(g)
		turn(makes)
		for n := range g.P {
			within := reach.From(g, n)
			again := slices.Clone(within)
			turn(within)
			areWithin(t, g, n, those(again)...)
		}
		haveTexts(t, g, those(told)...)
		isLost(t, g, lost)
		isVain(t, g, vain)
		if !reflect.DeepEqual(whole(g), before) {
			t.Fatal("what is handed in is changed")
		}
	}
}

// P1, R1: nonterminals of any numbers, and any nonterminal asked for: all calls end, and tell nothing where they may not be.
func TestWild(t *testing.T) {
	r := rand.New(rand.NewSource(113))
	number := func() int {
		return []int{math.MinInt, -1, 0, 1, 2, 2, 2, 3, 64, 256, 55296, 1114112, math.MaxInt}[r.Intn(13)]
	}
	sets := func() []api.Range {
		return [][]api.Range{nil, nil, nil, {{Lo: number(), Hi: number()}}}[r.Intn(4)]
	}
	may, not := 0, 0
	for range 30000 {
		var g api.Gram
		for range r.Intn(4) {
			p := api.Prod{Marks: []int{0, 63, number()}[r.Intn(3)], Not: sets()}
			for range r.Intn(4) {
				var a []api.Sym
				for range r.Intn(3) {
					a = append(a, api.Sym{Kind: []int{api.Non, api.Non, api.Byte, api.Scal, number()}[r.Intn(5)], R: sets(), N: []int{0, 0, 1, number()}[r.Intn(4)]})
				}
				p.A = append(p.A, a)
			}
			g.P = append(g.P, p)
		}
		asOwn(t, g)
		if n := number(); !slices.Equal(reach.From(g, n), ownFrom(g, n)) {
			t.Fatalf("From(%s, %d)", short(g), n)
		}
		if flat.May(g) {
			may++
		} else {
			not++
		}
	}
	if may < 1000 || not < 1000 {
		t.Error("few of a sort:", may, not)
	}
}
