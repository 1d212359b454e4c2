package strata_test

import (
	"math"
	"math/rand"
	"reflect"
	"slices"
	"testing"

	"exegete/api"
	"exegete/flat"
	"exegete/rank"
	"exegete/strata"
)

// asOwn fails the test if of nonterminals anything is told that the other reckoning does not.
func asOwn(t *testing.T, g api.Gram) {
	t.Helper()
	if n := strata.Bad(g); n != ownBad(g) {
		t.Fatalf("Bad(%s) = %d; want %d", short(g), n, ownBad(g))
	}
	if n := strata.Laid(g); n != ownLaid(g) {
		t.Fatalf("Laid(%s) = %d; want %d", short(g), n, ownLaid(g))
	}
	want, may := ownOrder(g)
	if l, is := strata.Order(g); is != may || !slices.Equal(l, want) {
		t.Fatalf("Order(%s) = %v, %v; want %v, %v", short(g), l, is, want, may)
	}
}

// stands fails the test if one with a filter does not stand in the order once, or has one with a filter within that does not stand ahead. It tells how many it has within.
func stands(t *testing.T, g api.Gram) int {
	t.Helper()
	l, is := strata.Order(g)
	if !is {
		return 0
	}
	inside, within := 0, ownWithin(g)
	for n, p := range g.P {
		at := slices.Index(l, n)
		if strata.Filter(p) != (at >= 0) || at >= 0 && slices.Contains(l[at+1:], n) {
			t.Fatalf("Order(%s) = %v: %d has a filter %v", short(g), l, n, strata.Filter(p))
		}
		for m, q := range g.P {
			if at < 0 || !within[n][m] || !strata.Filter(q) {
				continue
			}
			inside++
			if !slices.Contains(l[:at], m) {
				t.Fatalf("Order(%s) = %v: %d is within %d, and not ahead of it", short(g), l, m, n)
			}
		}
	}
	return inside
}

// counts is how many nonterminals there were of a sort.
type counts struct {
	bad, laid, orders, inside, circles, none int
}

// add holds nonterminals against the other reckoning, and counts them.
func (c *counts) add(t *testing.T, g api.Gram) {
	t.Helper()
	asOwn(t, g)
	c.inside += stands(t, g)
	l, is := strata.Order(g)
	for _, one := range []struct {
		many *int
		is   bool
	}{
		{&c.bad, is && strata.Bad(g) >= 0}, {&c.laid, strata.Laid(g) >= 0}, {&c.orders, len(l) > 1}, {&c.circles, !is}, {&c.none, is && strata.Bad(g) == -1 && strata.Laid(g) == -1},
	} {
		if one.is {
			*one.many++
		}
	}
}

// few fails the test if there were few of a sort.
func (c counts) few(t *testing.T, many int) {
	t.Helper()
	if min(c.bad, c.laid, c.orders, c.inside, c.circles, c.none) < many {
		t.Errorf("few of a sort: %+v", c)
	}
}

// P12.1, P12.2, P12.3: all three nonterminals, each with each of them as symbols, or without it, and marks of each sort.
func TestAllSmall(t *testing.T) {
	sorts := []api.Prod{{}, {Marks: api.Long}, {Not: []api.Range{{Lo: 'a', Hi: 'z'}}}, {Marks: api.Sync}, {Marks: api.Off}, {Marks: api.Res | api.Sync}, {Marks: api.Res | api.Align}}
	var c counts
	for pairs := range 512 {
		for some := range len(sorts) * len(sorts) * len(sorts) {
			g := api.Gram{P: make([]api.Prod, 3)}
			for n := range g.P {
				g.P[n] = sorts[some%len(sorts)]
				some /= len(sorts)
				for m := range 3 {
					if pairs>>(3*n+m)&1 == 1 {
						g.P[n].A = append(g.P[n].A, nons(m))
					}
				}
				g.P[n].A = append(g.P[n].A, nil)
			}
			c.add(t, g)
		}
	}
	c.few(t, 5000)
}

// randomMarks are marks, and what may not follow, so many a thousand with a filter, and so many with others.
func randomMarks(r *rand.Rand, filters, others int) api.Prod {
	var p api.Prod
	if r.Intn(1000) < filters {
		sort := 1 + r.Intn(7)
		p.Marks = sort % 4
		if sort > 3 {
			p.Not = []api.Range{{Lo: 'y', Hi: 'y'}}
		}
	}
	if r.Intn(1000) < others {
		p.Marks |= []int{api.Off, api.Block, api.Align, api.Sync, api.Sync | api.Off}[r.Intn(5)]
	}
	return p
}

// randomGram is so many nonterminals, each of symbols of some ahead of it in a random order, with so many a thousand symbols of which that may not be so.
func randomGram(r *rand.Rand, many, filters, others, wild int) api.Gram {
	order, g := r.Perm(many), api.Gram{P: make([]api.Prod, many), Keys: []string{"x", "xy"}}
	for i, n := range order {
		g.P[n] = randomMarks(r, filters, others)
		for range 1 + r.Intn(3) {
			var a []api.Sym
			for range r.Intn(4) {
				switch {
				case r.Intn(1000) < wild:
					a = append(a, nons(r.Intn(many))...)
				case i > 0 && r.Intn(2) > 0:
					a = append(a, nons(order[r.Intn(i)])...)
				default:
					a = append(a, api.Sym{Kind: r.Intn(2), R: []api.Range{{Lo: 'x', Hi: 'x' + r.Intn(2)}}})
				}
			}
			g.P[n].A = append(g.P[n].A, a)
		}
	}
	return g
}

// P12.1, P12.2, P12.3: many nonterminals, few and up to 60, are as the other reckoning says.
func TestRandom(t *testing.T) {
	r := rand.New(rand.NewSource(12))
	var c counts
	for i := range 3000 {
		c.add(t, randomGram(r, 1+r.Intn([]int{5, 20, 60}[i%3]), []int{100, 300, 800}[r.Intn(3)], []int{0, 50, 200}[r.Intn(3)], []int{0, 10, 50, 300}[r.Intn(4)]))
	}
	c.few(t, 200)
}

// withoutFilter is nonterminals of which one has no filter.
func withoutFilter(g api.Gram, n int) api.Gram {
	g.P = slices.Clone(g.P)
	g.P[n].Marks, g.P[n].Not = 0, nil
	return g
}

// wordsOf are all bytes of x and y, so many at most.
func wordsOf(most int) []string {
	words := []string{""}
	for i := 0; len(words[i]) < most; i++ {
		words = append(words, words[i]+"x", words[i]+"y")
	}
	return words
}

// P12.3: where one with a filter ends is the same without the filter of any other one that does not stand ahead in the order,
// and not always without that of one that does.
func TestFiltersAhead(t *testing.T) {
	r := rand.New(rand.NewSource(123))
	words := wordsOf(3)
	behind, ahead := 0, 0
	for range 3000 {
		g := randomGram(r, 2+r.Intn(4), 700, 0, 150)
		l, is := strata.Order(g)
		if !is || rank.Circle(g) >= 0 {
			continue
		}
		for i, n := range l {
			all := told(g, n, words)
			for j, m := range l {
				if m == n {
					continue
				}
				same := reflect.DeepEqual(told(withoutFilter(g, m), n, words), all)
				switch {
				case j > i && !same:
					t.Fatalf("Order(%s) = %v: where %d ends hangs on %d's filter", short(g), l, n, m)
				case j > i:
					behind++
				case !same:
					ahead++
				}
			}
		}
	}
	if min(behind, ahead) < 300 {
		t.Error("few of a sort:", behind, ahead)
	}
}

// roomy is nonterminals with room behind each of their lists, in which something stands.
func roomy(g api.Gram) api.Gram {
	g.P = slices.Concat(g.P, []api.Prod{{Marks: 7}})[:len(g.P)]
	for n := range g.P {
		g.P[n].Not = slices.Concat(g.P[n].Not, []api.Range{{Lo: 3, Hi: 4}})[:len(g.P[n].Not)]
		a := slices.Concat(g.P[n].A, [][]api.Sym{nons(1, 2)})[:len(g.P[n].A)]
		for i := range a {
			a[i] = slices.Concat(a[i], nons(77))[:len(a[i])]
		}
		g.P[n].A = a
	}
	return g
}

// whole is all of the nonterminals' lists, with what stands in the room behind them.
func whole(g api.Gram) api.Gram {
	out := api.Gram{Keys: slices.Clone(g.Keys), P: slices.Clone(g.P[:cap(g.P)])}
	for n := range g.P {
		out.P[n].Not = slices.Clone(g.P[n].Not[:cap(g.P[n].Not)])
		a := slices.Clone(g.P[n].A[:cap(g.P[n].A)])
		for i := range g.P[n].A {
			a[i] = slices.Clone(a[i][:cap(a[i])])
			for j := range a[i] {
				a[i][j].R = slices.Clone(a[i][j].R)
			}
		}
		out.P[n].A = a
	}
	return out
}

// R3, R5: what is handed in stays, and what is answered is the caller's: asked again, it is the same, whatever became of it.
func TestOwnMemory(t *testing.T) {
	r := rand.New(rand.NewSource(124))
	for range 500 {
		g := roomy(randomGram(r, 1+r.Intn(20), 600, 100, 10))
		before := whole(g)
		l, is := strata.Order(g)
		kept, bad, laid := slices.Clone(l), strata.Bad(g), strata.Laid(g)
		for i := range l[:cap(l)] {
			l[:cap(l)][i] = -7
		}
		for range 5 {
			if again, may := strata.Order(g); may != is || !slices.Equal(again, kept) {
				t.Fatalf("Order(%s) = %v, %v, and then %v, %v", short(g), kept, is, again, may)
			}
			isBad(t, g, bad)
			isLaid(t, g, laid)
		}
		for n := range g.P {
			strata.Filter(g.P[n])
		}
		if !reflect.DeepEqual(whole(g), before) {
			t.Fatal("what is handed in is changed")
		}
	}
}

// P1, R1: nonterminals of any numbers: all calls end, and tell nothing where they may not be.
func TestWild(t *testing.T) {
	r := rand.New(rand.NewSource(125))
	number := func() int {
		return []int{math.MinInt, -1, 0, 1, 2, 2, 2, 3, 64, 256, 1114112, math.MaxInt}[r.Intn(12)]
	}
	sets := func() []api.Range {
		return [][]api.Range{nil, nil, nil, {{Lo: number(), Hi: number()}}}[r.Intn(4)]
	}
	var c counts
	not := 0
	for range 50000 {
		var g api.Gram
		for range r.Intn(4) {
			p := api.Prod{Marks: []int{r.Intn(64), r.Intn(64), 0, number()}[r.Intn(4)], Not: sets()}
			for range r.Intn(4) {
				var a []api.Sym
				for range r.Intn(3) {
					a = append(a, api.Sym{Kind: []int{api.Non, api.Non, api.Byte, api.Scal, number()}[r.Intn(5)], R: sets(), N: []int{0, 0, 1, number()}[r.Intn(4)]})
				}
				p.A = append(p.A, a)
			}
			strata.Filter(p)
			g.P = append(g.P, p)
		}
		if flat.May(g) {
			c.add(t, g)
		} else {
			tellNothing(t, g)
			not++
		}
	}
	if not < 1000 {
		t.Error("few may not be:", not)
	}
	c.few(t, 20)
}
