package flat_test

import (
	"fmt"
	"slices"

	"exegete/api"
)

// Another reckoning of the chapter: all parts are gone through first, on the way in and on the way out; what is wrong is told
// by counting alone; numbers are told by where a part stands, and alternatives by those numbers, in any order.

// visit is a part on the way in or out: the numbers by which one comes to it, and whether it is a rule's own.
type visit struct {
	p    api.Part
	path string
	own  bool
	out  bool
}

func ownVisits(f api.File) []visit {
	var l []visit
	var walk func(p api.Part, path string, own bool)
	walk = func(p api.Part, path string, own bool) {
		l = append(l, visit{p, path, own, false})
		if ownWrongShape(p) {
			return
		}
		for i, x := range p.L {
			if p.Kind >= api.Seq {
				walk(x, fmt.Sprint(path, ".", i), false)
			}
		}
		l = append(l, visit{p, path, own, true})
	}
	for i, r := range f.R {
		walk(r.E, fmt.Sprint(i), true)
	}
	return l
}

// ownWrongShape tells whether a part is of no kind, or has not the one part it must have.
func ownWrongShape(p api.Part) bool {
	return p.Kind < api.Call || p.Kind > api.Opt || p.Kind >= api.Star && len(p.L) != 1
}

// ownIsNew tells whether a new nonterminal is made of a part.
func (v visit) ownIsNew() bool {
	return v.p.Kind >= api.Star && v.p.Kind <= api.Opt || v.p.Kind == api.Or && !v.own
}

// ownWidth is how many symbols are made of a part.
func ownWidth(p api.Part) int {
	switch p.Kind {
	case api.Text:
		return len(p.Text)
	case api.Seq:
		sum := 0
		for _, x := range p.L {
			sum += ownWidth(x)
		}
		return sum
	}
	return 1
}

// ownMisfits tells, on the way out, whether alternatives are none, too many, or too long.
func (v visit) ownMisfits() bool {
	switch {
	case v.p.Kind == api.Or:
		long := slices.ContainsFunc(v.p.L, func(x api.Part) bool { return ownWidth(x) > 40 })
		return long || len(v.p.L) == 0 || len(v.p.L) > 8
	case v.p.Kind == api.Star || v.p.Kind == api.Plus:
		return ownWidth(v.p.L[0]) > 39
	case v.p.Kind == api.Opt:
		return ownWidth(v.p.L[0]) > 40
	}
	return v.own && ownWidth(v.p) > 40
}

// ownFault is what is wrong first; 0, and OK, if nothing is.
func ownFault(f api.File) (int, api.Errno) {
	has := func(l []api.Rule, name string) bool {
		return slices.ContainsFunc(l, func(r api.Rule) bool { return r.Name == name })
	}
	for i, r := range f.R {
		if has(f.R[:i], r.Name) {
			return r.At, api.ErrTwice
		}
	}
	many := len(f.R)
	if many == 0 || many > 60 {
		return 0, api.ErrSize
	}
	for _, v := range ownVisits(f) {
		switch {
		case v.out && v.ownMisfits():
			return v.p.At, api.ErrSize
		case v.out:
			continue
		case ownWrongShape(v.p):
			return v.p.At, api.ErrSize
		case v.p.Kind == api.Call && !has(f.R, v.p.Text):
			return v.p.At, api.ErrName
		case v.ownIsNew():
			if many++; many > 60 {
				return v.p.At, api.ErrSize
			}
		}
	}
	return 0, api.OK
}

// ownOf is what Of answers.
func ownOf(f api.File) (api.Gram, int, api.Errno) {
	if at, e := ownFault(f); e != api.OK {
		return api.Gram{}, at, e
	}
	numbers := map[string]int{}
	var fresh []visit
	for _, v := range ownVisits(f) {
		if !v.out && v.ownIsNew() {
			numbers[v.path] = len(f.R) + len(fresh)
			fresh = append(fresh, v)
		}
	}
	g := api.Gram{Keys: f.Keys}
	for i, r := range f.R {
		p := api.Prod{Marks: r.Marks, Not: r.Not}
		if r.E.Kind == api.Or {
			p.A = ownEach(f, numbers, r.E, fmt.Sprint(i))
		} else {
			p.A = [][]api.Sym{ownSyms(f, numbers, r.E, fmt.Sprint(i))}
		}
		g.P = append(g.P, p)
	}
	for _, v := range fresh {
		g.P = append(g.P, api.Prod{A: ownAlternatives(f, numbers, v)})
	}
	return g, 0, api.OK
}

func ownEach(f api.File, numbers map[string]int, p api.Part, path string) [][]api.Sym {
	var a [][]api.Sym
	for i, x := range p.L {
		a = append(a, ownSyms(f, numbers, x, fmt.Sprint(path, ".", i)))
	}
	return a
}

func ownAlternatives(f api.File, numbers map[string]int, v visit) [][]api.Sym {
	a := ownEach(f, numbers, v.p, v.path)
	self := api.Sym{Kind: api.Non, N: numbers[v.path]}
	switch v.p.Kind {
	case api.Star:
		return [][]api.Sym{slices.Concat(a[0], []api.Sym{self}), nil}
	case api.Plus:
		return [][]api.Sym{slices.Concat(a[0], []api.Sym{self}), a[0]}
	case api.Opt:
		return [][]api.Sym{a[0], nil}
	}
	return a
}

func ownSyms(f api.File, numbers map[string]int, p api.Part, path string) []api.Sym {
	switch p.Kind {
	case api.Call:
		n := slices.IndexFunc(f.R, func(r api.Rule) bool { return r.Name == p.Text })
		return []api.Sym{{Kind: api.Non, N: n}}
	case api.Text:
		var l []api.Sym
		for i := range len(p.Text) {
			b := int(p.Text[i])
			l = append(l, api.Sym{Kind: api.Byte, R: []api.Range{{Lo: b, Hi: b}}})
		}
		return l
	case api.Set:
		return []api.Sym{{Kind: api.Scal, R: p.R}}
	case api.Octs:
		return []api.Sym{{Kind: api.Byte, R: p.R}}
	case api.Seq:
		return slices.Concat(ownEach(f, numbers, p, path)...)
	}
	return []api.Sym{{Kind: api.Non, N: numbers[path]}}
}

// ownMay tells whether nonterminals may be, number by number.
func ownMay(g api.Gram) bool {
	may := len(g.P) >= 1 && len(g.P) <= 60
	for _, p := range g.P {
		may = may && len(p.A) >= 1 && len(p.A) <= 8 && p.Marks&^63 == 0 && ownOrdered(p.Not, 1114111)
		for _, l := range p.A {
			may = may && len(l) <= 40
			for _, s := range l {
				switch s.Kind {
				case 0:
					may = may && s.N == 0 && ownOrdered(s.R, 255)
				case 1:
					may = may && s.N == 0 && ownOrdered(s.R, 1114111)
				case 2:
					may = may && s.N >= 0 && s.N < len(g.P) && len(s.R) == 0
				default:
					may = false
				}
			}
		}
	}
	return may
}

// ownOrdered tells whether ranges are in order, and none is above a number.
func ownOrdered(l []api.Range, high int) bool {
	for i, r := range l {
		if r.Lo < 0 || r.Lo > r.Hi || r.Hi > high || i > 0 && r.Lo < l[i-1].Hi+2 {
			return false
		}
	}
	return true
}
