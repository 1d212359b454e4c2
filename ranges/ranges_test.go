package ranges_test

import (
	"math"
	"slices"
	"testing"

	"exegete/api"
	"exegete/ranges"
)

// The calls have the signatures of the chapter.
var (
	_ func([]api.Range) bool                     = ranges.May
	_ func([]api.Range) []api.Range              = ranges.Norm
	_ func([]api.Range, int) bool                = ranges.Has
	_ func([]api.Range) int                      = ranges.Size
	_ func([]api.Range, []api.Range) []api.Range = ranges.Both
	_ func([]api.Range, []api.Range) []api.Range = ranges.Either
	_ func([]api.Range, []api.Range) []api.Range = ranges.Less
	_ func([]api.Range, int) []api.Range         = ranges.Not
	_ func([]api.Range, []api.Range) bool        = ranges.Same
)

const (
	top   = 1114111
	least = math.MinInt
	most  = math.MaxInt
)

// of is ranges, from every first number to the one behind it.
func of(n ...int) []api.Range {
	var l []api.Range
	for i := 0; i+1 < len(n); i += 2 {
		l = append(l, api.Range{Lo: n[i], Hi: n[i+1]})
	}
	return l
}

// isOf is the chapter's word: is n from Lo to Hi of one of them?
func isOf(l []api.Range, n int) bool {
	for _, r := range l {
		if r.Lo <= n && n <= r.Hi {
			return true
		}
	}
	return false
}

// told is the ranges in order of the numbers from lo to hi of which is holds, told number by number.
func told(lo, hi int, is func(int) bool) []api.Range {
	var l []api.Range
	for n := max(lo, 0); n <= min(hi, top); n++ {
		if !is(n) {
			continue
		}
		if last := len(l) - 1; last >= 0 && l[last].Hi == n-1 {
			l[last].Hi = n
		} else {
			l = append(l, api.Range{Lo: n, Hi: n})
		}
	}
	return l
}

// lists yields all lists of at most many ranges whose borders are from lo to hi, those with Lo above Hi too.
func lists(lo, hi, many int) func(func([]api.Range) bool) {
	var grow func(l []api.Range, yield func([]api.Range) bool) bool
	grow = func(l []api.Range, yield func([]api.Range) bool) bool {
		if !yield(l) {
			return false
		}
		if len(l) == many {
			return true
		}
		for a := lo; a <= hi; a++ {
			for b := lo; b <= hi; b++ {
				if !grow(append(slices.Clone(l), api.Range{Lo: a, Hi: b}), yield) {
					return false
				}
			}
		}
		return true
	}
	return func(yield func([]api.Range) bool) { grow(nil, yield) }
}

// same fails the test if a call answered another list.
func same(t *testing.T, call string, got, want []api.Range, args ...any) {
	if !slices.Equal(got, want) {
		t.Helper()
		t.Fatalf("%s of %v = %v; want %v", call, args, got, want)
	}
}

// mayLists are lists that are in order.
var mayLists = [][]api.Range{
	nil, {}, of(0, 0), of(top, top), of(0, top), of(3, 9), of(3, 3, 5, 5, 7, 7), of(3, 5, 7, 9), of(0, 1, 3, top),
	of(0, top-2, top, top), of(0, 0, 2, 2, 4, top), of(55296, 57343), of(0, 55295, 57344, top),
}

// mayNotLists are lists that are not.
var mayNotLists = [][]api.Range{
	of(3, 5, 6, 9), of(3, 5, 5, 9), of(3, 5, 4, 9), of(3, 9, 4, 5), of(3, 5, 3, 5), of(7, 9, 1, 2), of(7, 9, 5, 5), of(6, 9, 3, 5),
	of(5, 3), of(1, 0), of(0, -1), of(1, 2, 5, 4), of(1, 2, 4, 3), of(5, 4, 7, 8), of(7, 8, 1, 2, 11, 12), of(1, 2, 7, 8, 4, 5),
	of(-1, 2), of(-1, -1), of(-5, -3), of(-5, -3, 1, 2), of(least, -1), of(least, 5), of(least, most), of(least, least),
	of(0, top+1), of(top+1, top+1), of(top, top+1), of(0, top-1, top, top), of(1, 2, 4, most), of(most, most), of(0, most), of(most, least),
	of(1, most, least, 3), of(1, most, 3, 4), of(1, most-1, most, most), of(0, top, top+2, top+2), of(0, top, 2, 3),
}

// P2.1: May, with ranges that touch, overlap, lie within each other, or stand in another order.
func TestMay(t *testing.T) {
	for _, l := range mayLists {
		if !ranges.May(l) {
			t.Errorf("May(%v) = false", l)
		}
	}
	for _, l := range mayNotLists {
		if ranges.May(l) {
			t.Errorf("May(%v) = true", l)
		}
	}
}

// P2.1: May asks for order alone, not for how many there are.
func TestMayOfMany(t *testing.T) {
	var l []api.Range
	for n := 0; n <= top; n += 2 {
		l = append(l, api.Range{Lo: n, Hi: n})
	}
	if !ranges.May(l) || !ranges.May(l[:api.MaxRange+1]) {
		t.Error("many ranges in order are told not to be")
	}
	l[len(l)-2].Hi++
	if ranges.May(l) {
		t.Error("the last two ranges touch, and are told to be in order")
	}
}

// P2.1: Has, of any numbers, also those that are below 0 or above 1114111.
func TestHas(t *testing.T) {
	for _, c := range []struct {
		l    []api.Range
		n    int
		want bool
	}{
		{nil, 0, false}, {of(), most, false}, {of(5, 9), 4, false}, {of(5, 9), 5, true}, {of(5, 9), 7, true}, {of(5, 9), 9, true}, {of(5, 9), 10, false},
		{of(5, 9, 20, 30), 10, false}, {of(5, 9, 20, 30), 20, true}, {of(20, 30, 5, 9), 6, true}, {of(1, 30, 5, 9), 20, true},
		{of(9, 5), 7, false}, {of(9, 5), 9, false}, {of(9, 5), 5, false}, {of(9, 5, 7, 7), 7, true},
		{of(0, 0), 0, true}, {of(top, top), top, true}, {of(0, top), -1, false}, {of(0, top), top + 1, false},
		{of(-5, -3), -4, true}, {of(-5, -3), -2, false}, {of(-5, 5), -5, true}, {of(top, top+9), top + 9, true}, {of(top+1, top+9), top, false},
		{of(least, most), least, true}, {of(least, most), most, true}, {of(least, most), 0, true}, {of(most, least), 0, false},
		{of(least, least), least, true}, {of(least, least), least + 1, false}, {of(least, least), most, false},
		{of(most, most), most, true}, {of(most, most), most - 1, false}, {of(most, most), least, false},
	} {
		if got := ranges.Has(c.l, c.n); got != c.want {
			t.Errorf("Has(%v, %d) = %t", c.l, c.n, got)
		}
	}
	for l := range lists(-1, 3, 2) {
		for n := -3; n <= 5; n++ {
			if got := ranges.Has(l, n); got != isOf(l, n) {
				t.Fatalf("Has(%v, %d) = %t", l, n, got)
			}
		}
	}
}

// P2.1: Same is asked of the lists, not of their numbers.
func TestSame(t *testing.T) {
	for _, c := range []struct {
		a, b []api.Range
		want bool
	}{
		{nil, nil, true}, {nil, []api.Range{}, true}, {[]api.Range{}, nil, true}, {of(1, 2), of(1, 2), true}, {of(1, 2, 4, 5), of(1, 2, 4, 5), true},
		{nil, of(1, 2), false}, {of(1, 2), nil, false}, {of(1, 2), of(1, 3), false}, {of(1, 2), of(0, 2), false}, {of(0, 0), nil, false},
		{of(1, 2, 4, 5), of(1, 2), false}, {of(1, 2), of(1, 2, 4, 5), false}, {of(1, 2, 4, 5), of(1, 2, 4, 6), false},
		{of(1, 2, 4, 5), of(4, 5, 1, 2), false}, {of(1, 2, 3, 4), of(1, 4), false}, {of(5, 3), nil, false}, {of(5, 3), of(5, 3), true}, {of(5, 3), of(6, 3), false},
		{of(least, most), of(least, most), true}, {of(-1, 1), of(0, 1), false}, {of(0, most), of(0, top), false}, {of(most, least), of(least, most), false},
	} {
		if got := ranges.Same(c.a, c.b); got != c.want {
			t.Errorf("Same(%v, %v) = %t", c.a, c.b, got)
		}
	}
}

// normCases are lists, and what they are in order.
var normCases = []struct{ l, want []api.Range }{
	{nil, nil}, {of(), nil}, {of(3, 5, 6, 9), of(3, 9)}, {of(6, 9, 3, 5), of(3, 9)}, {of(3, 5, 7, 9), of(3, 5, 7, 9)}, {of(7, 9, 3, 5), of(3, 5, 7, 9)},
	{of(3, 5, 5, 9), of(3, 9)}, {of(3, 7, 5, 9), of(3, 9)}, {of(3, 9, 5, 6), of(3, 9)}, {of(5, 6, 3, 9), of(3, 9)}, {of(3, 9, 3, 9), of(3, 9)},
	{of(3, 4, 3, 9), of(3, 9)}, {of(3, 9, 3, 4), of(3, 9)}, {of(3, 20, 5, 6, 8, 9, 21, 22), of(3, 22)}, {of(3, 20, 5, 6, 22, 22), of(3, 20, 22, 22)},
	{of(9, 9, 7, 7, 5, 5, 8, 8), of(5, 5, 7, 9)}, {of(6, 9, 3, 5, 7, 12), of(3, 12)},
	{of(5, 3), nil}, {of(1, 0), nil}, {of(9, 1, 4, 5, 8, 2), of(4, 5)}, {of(5, 3, 4, 4), of(4, 4)}, {of(3, 9, 6, 4), of(3, 9)},
	{of(0, 0), of(0, 0)}, {of(top, top), of(top, top)}, {of(0, top), of(0, top)}, {of(0, 0, top, top), of(0, 0, top, top)}, {of(0, top-1, top, top), of(0, top)},
	{of(-1, 0), of(0, 0)}, {of(-1, -1), nil}, {of(-5, -3), nil}, {of(-9, 2), of(0, 2)}, {of(-9, 2, 3, 4), of(0, 4)}, {of(-9, -1, 1, 2), of(1, 2)}, {of(-9, -1, 0, 2), of(0, 2)},
	{of(top, top+1), of(top, top)}, {of(top+1, top+1), nil}, {of(top+1, most), nil}, {of(top-1, top-1, top+1, top+2), of(top-1, top-1)}, {of(top, most), of(top, top)},
	{of(least, most), of(0, top)}, {of(most, least), nil}, {of(least, least), nil}, {of(most, most), nil}, {of(least, -1), nil}, {of(least, 0), of(0, 0)},
	{of(most, most-1), nil}, {of(least+1, least), nil}, {of(most, 3, 4, 5), of(4, 5)}, {of(4, 5, 7, least), of(4, 5)}, {of(least, 1, 3, most), of(0, 1, 3, top)}, {of(least, 1, 2, most), of(0, top)},
}

// P2.1: Norm, and Size, at the edges and the example.
func TestNormAndSize(t *testing.T) {
	for _, c := range normCases {
		same(t, "Norm", ranges.Norm(c.l), c.want, c.l)
		size := 0
		for _, r := range c.want {
			size += r.Hi - r.Lo + 1
		}
		if got := ranges.Size(c.l); got != size {
			t.Errorf("Size(%v) = %d; want %d", c.l, got, size)
		}
	}
}

// P2.1: Size, with its numbers written out.
func TestSize(t *testing.T) {
	for _, c := range []struct {
		l    []api.Range
		want int
	}{
		{nil, 0}, {of(), 0}, {of(7, 7), 1}, {of(3, 5, 6, 9), 7}, {of(3, 5, 4, 6), 4}, {of(3, 5, 3, 5, 3, 5), 3}, {of(5, 9, 20, 30), 16}, {of(20, 30, 5, 9), 16},
		{of(5, 3), 0}, {of(-5, -3), 0}, {of(-5, 3), 4}, {of(0, top), 1114112}, {of(top, top+5), 1}, {of(least, most), 1114112}, {of(most, least), 0},
		{of(least, most, least, most), 1114112}, {of(most, most, least, least), 0},
	} {
		if got := ranges.Size(c.l); got != c.want {
			t.Errorf("Size(%v) = %d; want %d", c.l, got, c.want)
		}
	}
}

// P2.1: Norm of all short lists, about 0 and about 1114111.
func TestNormAll(t *testing.T) {
	for _, at := range []int{0, top - 2} {
		for l := range lists(at-2, at+4, 3) {
			want := told(at-2, at+4, func(n int) bool { return isOf(l, n) })
			got := ranges.Norm(l)
			same(t, "Norm", got, want, l)
			if !ranges.May(got) {
				t.Fatalf("Norm(%v) = %v, which is not in order", l, got)
			}
		}
	}
}

// mergeCases are two lists, and what they are merged to.
var mergeCases = []struct{ a, b, both, either, less []api.Range }{
	{nil, nil, nil, nil, nil},
	{of(3, 5), nil, nil, of(3, 5), of(3, 5)},
	{nil, of(3, 5), nil, of(3, 5), nil},
	{of(3, 5), of(3, 5), of(3, 5), of(3, 5), nil},
	{of(3, 5), of(6, 9), nil, of(3, 9), of(3, 5)},
	{of(6, 9), of(3, 5), nil, of(3, 9), of(6, 9)},
	{of(3, 5), of(7, 9), nil, of(3, 5, 7, 9), of(3, 5)},
	{of(3, 5), of(5, 9), of(5, 5), of(3, 9), of(3, 4)},
	{of(3, 9), of(5, 6), of(5, 6), of(3, 9), of(3, 4, 7, 9)},
	{of(5, 6), of(3, 9), of(5, 6), of(3, 9), nil},
	{of(5, 9, 20, 30), of(8, 22, 40, top), of(8, 9, 20, 22), of(5, 30, 40, top), of(5, 7, 23, 30)},
	{of(20, 30, 5, 9), of(40, most, 8, 22), of(8, 9, 20, 22), of(5, 30, 40, top), of(5, 7, 23, 30)},
	{of(1, 1, 3, 3, 5, 5), of(2, 2, 4, 4), nil, of(1, 5), of(1, 1, 3, 3, 5, 5)},
	{of(1, 1, 3, 3, 5, 5), of(3, 3), of(3, 3), of(1, 1, 3, 3, 5, 5), of(1, 1, 5, 5)},
	{of(1, 4, 6, 9), of(4, 6), of(4, 4, 6, 6), of(1, 9), of(1, 3, 7, 9)},
	{of(3, 5, 6, 9), of(5, 6), of(5, 6), of(3, 9), of(3, 4, 7, 9)},
	{of(0, top), of(0, 0), of(0, 0), of(0, top), of(1, top)},
	{of(0, top), of(top, top), of(top, top), of(0, top), of(0, top-1)},
	{of(0, top), of(0, top), of(0, top), of(0, top), nil},
	{of(0, 0), of(top, top), nil, of(0, 0, top, top), of(0, 0)},
	{of(5, 3), of(3, 5), nil, of(3, 5), nil},
	{of(3, 5), of(5, 3), nil, of(3, 5), of(3, 5)},
	{of(-9, 4), of(-5, 2), of(0, 2), of(0, 4), of(3, 4)},
	{of(-9, -1), of(-9, -1), nil, nil, nil},
	{of(top-2, top+5), of(top-1, most), of(top-1, top), of(top-2, top), of(top-2, top-2)},
	{of(top+1, most), of(top+1, most), nil, nil, nil},
	{of(least, most), of(least, most), of(0, top), of(0, top), nil},
	{of(least, most), of(7, 7), of(7, 7), of(0, top), of(0, 6, 8, top)},
	{of(least, most), of(most, least), nil, of(0, top), of(0, top)},
	{of(most, least), of(least, most), nil, of(0, top), nil},
	{of(least, least, most, most), of(least, 0, top, most), nil, of(0, 0, top, top), nil},
}

// P2.2: Both, Either and Less at the edges.
func TestMerge(t *testing.T) {
	for _, c := range mergeCases {
		same(t, "Both", ranges.Both(c.a, c.b), c.both, c.a, c.b)
		same(t, "Both", ranges.Both(c.b, c.a), c.both, c.b, c.a)
		same(t, "Either", ranges.Either(c.a, c.b), c.either, c.a, c.b)
		same(t, "Either", ranges.Either(c.b, c.a), c.either, c.b, c.a)
		same(t, "Less", ranges.Less(c.a, c.b), c.less, c.a, c.b)
	}
}

// P2.2: Both, Either and Less of all short lists, about 0 and about 1114111.
func TestMergeAll(t *testing.T) {
	for _, at := range []int{0, top - 1} {
		lo, hi := at-1, at+2
		for a := range lists(lo, hi, 2) {
			for b := range lists(lo, hi, 2) {
				inA := func(n int) bool { return isOf(a, n) }
				inB := func(n int) bool { return isOf(b, n) }
				same(t, "Both", ranges.Both(a, b), told(lo, hi, func(n int) bool { return inA(n) && inB(n) }), a, b)
				same(t, "Either", ranges.Either(a, b), told(lo, hi, func(n int) bool { return inA(n) || inB(n) }), a, b)
				same(t, "Less", ranges.Less(a, b), told(lo, hi, func(n int) bool { return inA(n) && !inB(n) }), a, b)
			}
		}
	}
}

// P2.2: Both, Either and Less of all sets of some numbers, so that many ranges meet.
func TestMergeSets(t *testing.T) {
	const many = 9
	sets := make([][]api.Range, 1<<many)
	for m := range sets {
		sets[m] = told(0, many-1, func(n int) bool { return m>>n&1 == 1 })
	}
	for a, la := range sets {
		for b, lb := range sets {
			same(t, "Both", ranges.Both(la, lb), sets[a&b], la, lb)
			same(t, "Either", ranges.Either(la, lb), sets[a|b], la, lb)
			same(t, "Less", ranges.Less(la, lb), sets[a&^b], la, lb)
		}
	}
}

// P2.2: Not, with high below 0, at 1114111 and above it.
func TestNot(t *testing.T) {
	for _, c := range []struct {
		l    []api.Range
		high int
		want []api.Range
	}{
		{nil, 0, of(0, 0)}, {nil, 255, of(0, 255)}, {nil, top - 1, of(0, top-1)}, {nil, top, of(0, top)}, {nil, top + 1, of(0, top)}, {nil, most, of(0, top)},
		{nil, -1, nil}, {nil, -2, nil}, {nil, least, nil}, {of(-9, 9), -1, nil}, {of(least, most), least, nil}, {of(most, least), least, nil},
		{of(0, 255), 255, nil}, {of(0, 255), 256, of(256, 256)}, {of(0, 254), 255, of(255, 255)}, {of(1, 255), 255, of(0, 0)}, {of(0, top), most, nil}, {of(0, top), 0, nil},
		{of(5, 9, 20, 30), 25, of(0, 4, 10, 19)}, {of(5, 9, 20, 30), 4, of(0, 4)}, {of(5, 9, 20, 30), 5, of(0, 4)}, {of(5, 9, 20, 30), 10, of(0, 4, 10, 10)},
		{of(5, 9, 20, 30), top, of(0, 4, 10, 19, 31, top)}, {of(5, 9, 20, 30), most, of(0, 4, 10, 19, 31, top)}, {of(20, 30, 5, 9, 7, 12), 25, of(0, 4, 13, 19)},
		{of(3, 5, 6, 9), 12, of(0, 2, 10, 12)}, {of(300, 400), 255, of(0, 255)}, {of(9, 5), 12, of(0, 12)}, {of(-9, 3), 5, of(4, 5)}, {of(top, most), most, of(0, top-1)},
		{of(least, most), most, nil}, {of(most, least), most, of(0, top)}, {of(55296, 57343), top, of(0, 55295, 57344, top)}, {of(top+1, most), top + 5, of(0, top)},
	} {
		same(t, "Not", ranges.Not(c.l, c.high), c.want, c.l, c.high)
	}
	for l := range lists(-1, 4, 2) {
		for high := -2; high <= 6; high++ {
			same(t, "Not", ranges.Not(l, high), told(0, high, func(n int) bool { return !isOf(l, n) }), l, high)
		}
	}
	for l := range lists(top-2, top+2, 2) {
		for high := top - 3; high <= top+3; high++ {
			got := ranges.Less(ranges.Not(l, high), of(0, top-4))
			same(t, "Not", got, told(top-3, high, func(n int) bool { return !isOf(l, n) }), l, high)
		}
	}
}

// P2.1, P2.2: numbers all over, of long lists in no order, are told one by one.
func TestNumberByNumber(t *testing.T) {
	scattered := func(seed, many, wide int) ([]api.Range, []bool) {
		var l []api.Range
		marks := make([]bool, top+1)
		for range many {
			seed = (seed*1103515245 + 12345) & math.MaxInt32
			lo := seed % (top + 40000)
			seed = (seed*1103515245 + 12345) & math.MaxInt32
			hi := lo + seed%wide - wide/8
			l = append(l, api.Range{Lo: lo - 20000, Hi: hi - 20000})
			for n := max(lo-20000, 0); n <= min(hi-20000, top); n++ {
				marks[n] = true
			}
		}
		return l, marks
	}
	for seed := range 8 {
		a, inA := scattered(seed*7919+1, 40<<seed, 90000>>seed)
		b, inB := scattered(seed*104729+5, 60<<seed, 50000>>seed)
		wantA := told(0, top, func(n int) bool { return inA[n] })
		same(t, "Norm", ranges.Norm(a), wantA, "list", seed)
		same(t, "Both", ranges.Both(a, b), told(0, top, func(n int) bool { return inA[n] && inB[n] }), "list", seed)
		same(t, "Either", ranges.Either(a, b), told(0, top, func(n int) bool { return inA[n] || inB[n] }), "list", seed)
		same(t, "Less", ranges.Less(a, b), told(0, top, func(n int) bool { return inA[n] && !inB[n] }), "list", seed)
		same(t, "Not", ranges.Not(a, 700000), told(0, 700000, func(n int) bool { return !inA[n] }), "list", seed)
		size := 0
		for n, is := range inA {
			if is {
				size++
			}
			if n%1013 == 0 && ranges.Has(a, n) != is {
				t.Fatalf("Has of list %d and %d = %t", seed, n, !is)
			}
		}
		if got := ranges.Size(a); got != size {
			t.Fatalf("Size of list %d = %d; want %d", seed, got, size)
		}
	}
}

// P1, R7: the greatest and least numbers, in all places.
func TestWildNumbers(t *testing.T) {
	wild := []int{least, least + 1, -1, 0, 1, 5, top - 1, top, top + 1, most - 1, most}
	asked := []int{0, 1, 2, 4, 5, 6, 1000, top - 2, top - 1, top}
	var all [][]api.Range
	for _, lo := range wild {
		for _, hi := range wild {
			all = append(all, of(lo, hi), of(lo, hi, 5, 1000), of(hi, hi, lo, lo))
		}
	}
	hold := func(call string, got []api.Range, is func(int) bool, args ...any) {
		if !ranges.May(got) {
			t.Fatalf("%s of %v = %v, which is not in order", call, args, got)
		}
		for _, n := range asked {
			if isOf(got, n) != is(n) {
				t.Fatalf("%s of %v = %v: wrong of %d", call, args, got, n)
			}
		}
	}
	for _, a := range all {
		inA := func(n int) bool { return isOf(a, n) }
		hold("Norm", ranges.Norm(a), inA, a)
		for _, n := range wild {
			if ranges.Has(a, n) != inA(n) {
				t.Fatalf("Has(%v, %d) = %t", a, n, !inA(n))
			}
			hold("Not", ranges.Not(a, n), func(m int) bool { return m <= n && !inA(m) }, a, n)
		}
		for _, b := range all {
			inB := func(n int) bool { return isOf(b, n) }
			hold("Both", ranges.Both(a, b), func(n int) bool { return inA(n) && inB(n) }, a, b)
			hold("Either", ranges.Either(a, b), func(n int) bool { return inA(n) || inB(n) }, a, b)
			hold("Less", ranges.Less(a, b), func(n int) bool { return inA(n) && !inB(n) }, a, b)
		}
	}
}

// P1: lists with as many ranges as there can be in order end soon.
func TestLongLists(t *testing.T) {
	var even, odd []api.Range
	for n := top; n >= 0; n-- {
		if n%2 == 0 {
			even = append(even, api.Range{Lo: n, Hi: n})
		} else {
			odd = append(odd, api.Range{Lo: n, Hi: n})
		}
	}
	backwards := func(l []api.Range) []api.Range {
		l = slices.Clone(l)
		slices.Reverse(l)
		return l
	}
	for _, c := range []struct {
		call      string
		got, want []api.Range
	}{
		{"Norm", ranges.Norm(even), backwards(even)},
		{"Both", ranges.Both(even, odd), nil},
		{"Either", ranges.Either(even, odd), of(0, top)},
		{"Less", ranges.Less(of(0, top), odd), backwards(even)},
		{"Not", ranges.Not(even, top), backwards(odd)},
	} {
		if !slices.Equal(c.got, c.want) {
			t.Errorf("%s has %d ranges; want %d", c.call, len(c.got), len(c.want))
		}
	}
	if got := ranges.Size(even); got != len(even) {
		t.Errorf("Size = %d; want %d", got, len(even))
	}
}

// P2.3: two lists in order of the same numbers are the same one, and for each set of numbers there is one.
func TestOnlyOnesOfTheirNumbers(t *testing.T) {
	for _, at := range []int{0, top - 4} {
		seen := make(map[int][]api.Range)
		for l := range lists(at-1, at+5, 3) {
			if !ranges.May(l) {
				continue
			}
			numbers := 0
			for n := range 5 {
				if ranges.Has(l, at+n) {
					numbers |= 1 << n
				}
			}
			if at > 0 && ranges.Has(l, at-1) || at == 0 && ranges.Has(l, 5) {
				continue
			}
			if other, is := seen[numbers]; is && !ranges.Same(other, l) {
				t.Fatalf("%v and %v are in order, and of the same numbers", other, l)
			}
			seen[numbers] = slices.Clone(l)
		}
		if len(seen) != 1<<5 {
			t.Fatalf("%d lists in order of 5 numbers; want 32", len(seen))
		}
	}
}

// P2.3: Norm leaves just those lists as they are that are in order.
func TestNormLeavesOrder(t *testing.T) {
	for _, l := range mayLists {
		same(t, "Norm", ranges.Norm(l), l, l)
	}
	for _, l := range mayNotLists {
		if got := ranges.Norm(l); !ranges.May(got) || ranges.Same(got, l) {
			t.Errorf("Norm(%v) = %v", l, got)
		}
	}
	for _, at := range []int{0, top - 2} {
		for l := range lists(at-2, at+4, 3) {
			got := ranges.Norm(l)
			if ranges.May(l) != ranges.Same(got, l) {
				t.Fatalf("May(%v) = %t, and Norm is %v", l, ranges.May(l), got)
			}
			same(t, "Norm", ranges.Norm(got), got, got)
		}
	}
}

// P2.3: sets that have the same numbers by other calls are the same lists.
func TestSameByOtherCalls(t *testing.T) {
	for a := range lists(-1, 4, 1) {
		for b := range lists(-1, 4, 2) {
			both := ranges.Both(a, b)
			same(t, "Less of Less", ranges.Less(a, ranges.Less(a, b)), both, a, b)
			same(t, "Not of Either of Nots", ranges.Not(ranges.Either(ranges.Not(a, most), ranges.Not(b, top)), top), both, a, b)
			same(t, "Norm of one list", ranges.Norm(append(slices.Clone(a), b...)), ranges.Either(a, b), a, b)
			same(t, "Either of parts", ranges.Either(both, ranges.Less(a, b)), ranges.Norm(a), a, b)
			if ranges.Size(a)+ranges.Size(b) != ranges.Size(both)+ranges.Size(ranges.Either(a, b)) {
				t.Fatalf("the sizes of %v and %v don't add up", a, b)
			}
		}
	}
}

// listCalls are the calls that answer a list, of two lists.
var listCalls = map[string]func(a, b []api.Range) []api.Range{
	"Norm":   func(a, b []api.Range) []api.Range { return ranges.Norm(a) },
	"Both":   ranges.Both,
	"Either": ranges.Either,
	"Less":   ranges.Less,
	"Not":    func(a, b []api.Range) []api.Range { return ranges.Not(a, top) },
}

// R3: what is handed in stays as it was, and so does what lies behind it in memory.
func TestArgumentsStay(t *testing.T) {
	for _, l := range append(mayLists, of(6, 9, 3, 5, 9, 1, -4, 3, top, most), of(1, 2, 2, 3), of(-5, -3, 1, 2)) {
		a := append(slices.Clone(l), of(70, 71, 60, 61)...)[:len(l)]
		b := slices.Clone(a)
		for name, call := range listCalls {
			call(a, b)
			call(b, a)
			call(a, a)
			if !slices.Equal(a, l) || !slices.Equal(b, l) || !slices.Equal(a[:len(l)+2][len(l):], of(70, 71, 60, 61)) {
				t.Fatalf("%s changed %v to %v, %v", name, l, a[:len(l)+2], b)
			}
		}
		ranges.May(a)
		ranges.Has(a, 5)
		ranges.Size(a)
		ranges.Same(a, b)
		if !slices.Equal(a, l) || !slices.Equal(b, l) {
			t.Fatalf("a question changed %v to %v, %v", l, a, b)
		}
	}
}

// R3: what is answered is the caller's own.
func TestAnswersAreNew(t *testing.T) {
	lists := [][]api.Range{of(3, 5, 7, 9), of(0, top), of(2, 4, 20, 30), of(6, 9, 3, 5), nil}
	for name, call := range listCalls {
		for _, la := range lists {
			for _, lb := range lists {
				a, b := slices.Clone(la), slices.Clone(lb)
				got, again := call(a, b), call(a, b)
				want := slices.Clone(got)
				for i := range again {
					again[i] = api.Range{Lo: 9, Hi: -9}
				}
				_ = append(again, of(8, -8)...)
				if !slices.Equal(a, la) || !slices.Equal(b, lb) || !slices.Equal(got, want) {
					t.Fatalf("%s of %v, %v: a change of the answer changed more", name, la, lb)
				}
				for _, l := range [][]api.Range{a, b} {
					for i := range l {
						l[i] = api.Range{Lo: 9, Hi: -9}
					}
				}
				if !slices.Equal(got, want) || !slices.Equal(call(la, lb), want) {
					t.Fatalf("%s of %v, %v: a change of the lists changed the answer", name, la, lb)
				}
			}
		}
	}
}
