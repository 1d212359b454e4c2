package null

import (
	"iter"

	"exegete/api"
)

// set is nonterminals: those that are known to be empty, or those that are lefts.
type set map[int]struct{}

func (s set) put(n int) {
	s[n] = struct{}{}
}

func (s set) has(n int) bool {
	_, is := s[n]
	return is
}

// behind is what is left of symbols behind those that are empty: it begins by the first one that is not.
func (s set) behind(l []api.Sym) []api.Sym {
	for i, x := range l {
		if x.Kind != api.Non || !s.has(x.N) {
			return l[i:]
		}
	}
	return nil
}

// lefts hands on the nonterminals of symbols all symbols ahead of which are empty.
func (s set) lefts(l []api.Sym) iter.Seq[int] {
	return func(yield func(int) bool) {
		for _, x := range l {
			if x.Kind != api.Non || !yield(x.N) || !s.has(x.N) {
				return
			}
		}
	}
}

// rest is what is left of an alternative of a nonterminal, all symbols ahead of it being empty.
type rest struct {
	of   int
	left []api.Sym
}

// rests are all alternatives of nonterminals, whole.
func rests(l []api.Prod) []rest {
	var out []rest
	for n, p := range l {
		for _, a := range p.A {
			out = append(out, rest{n, a})
		}
	}
	return out
}

// found hands on, each once, who is empty by those that are known to be; whoever is handed on is to be known from then on.
// An alternative waits for its first nonterminal that is not known, and goes on behind that alone, so that no symbol is
// passed twice, however long a chain of nonterminals is.
func found(l []api.Prod, known set) iter.Seq[int] {
	return func(yield func(int) bool) {
		next, waiting := rests(l), make(map[int][]rest)
		for len(next) > 0 {
			last := len(next) - 1
			r := next[last]
			next = next[:last]
			r.left = known.behind(r.left)
			switch {
			case known.has(r.of):
				// One alternative is enough.
			case len(r.left) == 0:
				if !yield(r.of) {
					return
				}
				next = append(next, waiting[r.of]...)
			case r.left[0].Kind == api.Non:
				n := r.left[0].N
				waiting[n] = append(waiting[n], r)
			}
		}
	}
}
