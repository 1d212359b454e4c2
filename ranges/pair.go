package ranges

import (
	"slices"

	"exegete/api"
)

// number is a number that ranges are asked for.
type number int

func (n number) isOf(r api.Range) bool {
	return r.Lo <= int(n) && int(n) <= r.Hi
}

// set is ranges in order.
type set []api.Range

// noBorder is above all borders: the greatest one is that behind MaxScalar.
const noBorder = api.MaxScalar + 2

// border is the i-th number at which a range begins, or is over; noBorder, if there are fewer.
func (s set) border(i int) int {
	switch {
	case i/2 >= len(s):
		return noBorder
	case i%2 == 0:
		return s[i/2].Lo
	}
	return s[i/2].Hi + 1
}

// has searches by halves, so that long lists are merged in little more time than they are long.
func (s set) has(n int) bool {
	_, is := slices.BinarySearchFunc(s, n, side)
	return is
}

// side is where a range lies, seen from a number: -1 below it, 1 above it, 0 about it.
func side(r api.Range, n int) int {
	switch {
	case r.Hi < n:
		return -1
	case r.Lo > n:
		return 1
	}
	return 0
}

// pair is two sets that are merged.
type pair struct{ a, b set }

func pairOf(a, b []api.Range) pair {
	return pair{Norm(a), Norm(b)}
}

func (p pair) both(n int) bool {
	return p.a.has(n) && p.b.has(n)
}

func (p pair) either(n int) bool {
	return p.a.has(n) || p.b.has(n)
}

func (p pair) less(n int) bool {
	return p.a.has(n) && !p.b.has(n)
}

// borders yields the borders of both sets, the least first, each once.
func (p pair) borders(yield func(int) bool) {
	for i, j := 0, 0; ; {
		ofA, ofB := p.a.border(i), p.b.border(j)
		n := min(ofA, ofB)
		if n == noBorder || !yield(n) {
			return
		}
		if ofA == n {
			i++
		}
		if ofB == n {
			j++
		}
	}
}

// merge is the ranges in order of the numbers that asked holds of.
// From one border to the next the answer is the same, and behind the last one no number is of either set.
func (p pair) merge(asked func(int) bool) []api.Range {
	var out []api.Range
	within := false
	for n := range p.borders {
		is := asked(n)
		if is && !within {
			out = append(out, api.Range{Lo: n, Hi: n})
		}
		if within && !is {
			out[len(out)-1].Hi = n - 1
		}
		within = is
	}
	return out
}
