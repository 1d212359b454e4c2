package strata

import (
	"exegete/api"
	"exegete/flat"
	"exegete/reach"
)

// set is nonterminals, each a bit: of those that may be there are not as many as bits.
type set uint64

func only(n int) set {
	return 1 << n
}

func (s set) has(n int) bool {
	return s&only(n) != 0
}

// setOf are those of which it is told that it is so.
func setOf(l []bool) set {
	var out set
	for n, is := range l {
		if is {
			out |= only(n)
		}
	}
	return out
}

// stack is, of each nonterminal that has a filter, who is within it.
type stack map[int]set

// stackOf has nobody, if the nonterminals may not be.
func stackOf(g api.Gram) stack {
	s := make(stack)
	if !flat.May(g) {
		return s
	}
	for n, p := range g.P {
		if Filter(p) {
			s[n] = setOf(reach.From(g, n))
		}
	}
	return s
}

// all are all that have a filter.
func (s stack) all() set {
	var out set
	for n := range s {
		out |= only(n)
	}
	return out
}

// least is the least one that is so, whatever the order in which the map is gone through; -1: there is none.
func (s stack) least(is func(n int, within set) bool) int {
	out := -1
	for n, within := range s {
		if is(n, within) && (out < 0 || n < out) {
			out = n
		}
	}
	return out
}

// order are all, each behind those that are within it; false: there is no such order.
func (s stack) order() ([]int, bool) {
	var out []int
	left := s.all()
	for left != 0 {
		next := s.least(func(n int, within set) bool {
			return left.has(n) && within&left == 0
		})
		if next < 0 {
			// What is within what is within is within: where each has some within that is left, one is within itself.
			return nil, false
		}
		out = append(out, next)
		left &^= only(next)
	}
	return out, true
}
