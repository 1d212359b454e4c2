package reach

// look is what is found out by a look at a nonterminal: who is to be looked at then.
type look func(n int) []int

// spread looks at some of so many nonterminals, and at all who are to be looked at then, till nobody is.
// A look that found nothing new must name nobody, or there is no end.
func spread(many int, some []int, at look) {
	todo := make(map[int]struct{})
	put := func(l []int) {
		for _, n := range l {
			todo[n] = struct{}{}
		}
	}
	// The least one is next, so that nothing hangs on the order of a map.
	next := func() (int, bool) {
		for n := range many {
			if _, is := todo[n]; is {
				delete(todo, n)
				return n, true
			}
		}
		return 0, false
	}
	put(some)
	for n, is := next(); is; n, is = next() {
		put(at(n))
	}
}
