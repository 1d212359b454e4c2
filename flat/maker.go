package flat

import (
	"math"
	"slices"

	"exegete/api"
)

const (
	// mostDeep is more levels than the document bounds: a list of parts that is within itself has no end but this.
	mostDeep = 1 << 17
	// mostParts is as many as the document bounds: lists that stand in one another more than once are few in memory,
	// and may be more parts than can ever be gone through.
	mostParts = math.MaxInt32
)

// way is how a part is made: what symbols are with those of it behind them.
type way func(l []api.Sym, p api.Part) []api.Sym

// maker is nonterminals that are being made, the rules' numbers by their names, the ways to make parts by their kinds,
// how many parts are within one another, how many more may be made, and what is wrong first, and where.
type maker struct {
	made  []api.Prod
	names map[string]int
	ways  [api.Opt + 1]way
	deep  int
	left  int
	at    int
	why   api.Errno
}

func newMaker() *maker {
	m := &maker{names: make(map[string]int), left: mostParts}
	m.ways = [...]way{
		api.Call: m.call,
		api.Text: m.text,
		api.Set:  m.set,
		api.Octs: m.octets,
		api.Seq:  m.seq,
		api.Or:   m.or,
		api.Star: m.star,
		api.Plus: m.plus,
		api.Opt:  m.opt,
	}
	return m
}

// stop keeps what is wrong, if nothing was: what is made behind that may be wrong only because of it.
func (m *maker) stop(at int, why api.Errno) {
	if m.why == api.OK {
		m.at, m.why = at, why
	}
}

func (m *maker) rules(l []api.Rule) {
	m.begin(l)
	for n, r := range l {
		if m.why != api.OK {
			return
		}
		m.finish(n, r.E, m.ruleAlternatives(r.E))
	}
}

// begin lays the rules' nonterminals, without alternatives, so that each part finds those of its names.
func (m *maker) begin(l []api.Rule) {
	for n, r := range l {
		if _, is := m.names[r.Name]; is {
			m.stop(r.At, api.ErrTwice)
			return
		}
		m.names[r.Name] = n
	}
	if len(l) == 0 || len(l) > api.MaxNon {
		m.stop(0, api.ErrSize)
		return
	}
	for _, r := range l {
		m.made = append(m.made, api.Prod{Marks: r.Marks, Not: slices.Clone(r.Not)})
	}
}

func (m *maker) ruleAlternatives(p api.Part) [][]api.Sym {
	if p.Kind == api.Or {
		return m.each(p, api.Sym{})
	}
	return [][]api.Sym{m.part(nil, p)}
}

// finish gives a nonterminal the alternatives that are made of a part.
func (m *maker) finish(n int, p api.Part, a [][]api.Sym) {
	if !fits(a) {
		m.stop(p.At, api.ErrSize)
	}
	m.made[n].A = a
}

func (m *maker) part(l []api.Sym, p api.Part) []api.Sym {
	if p.Kind < 0 || p.Kind >= len(m.ways) || m.deep == mostDeep || m.left == 0 {
		m.stop(p.At, api.ErrSize)
		return l
	}
	m.left--
	m.deep++
	l = m.ways[p.Kind](l, p)
	m.deep--
	return l
}

func (m *maker) call(l []api.Sym, p api.Part) []api.Sym {
	n, is := m.names[p.Text]
	if !is {
		m.stop(p.At, api.ErrName)
	}
	return put(l, api.Sym{Kind: api.Non, N: n})
}

func (m *maker) text(l []api.Sym, p api.Part) []api.Sym {
	for _, b := range []byte(p.Text) {
		if tooLong(l) {
			return l
		}
		l = put(l, api.Sym{Kind: api.Byte, R: []api.Range{{Lo: int(b), Hi: int(b)}}})
	}
	return l
}

func (m *maker) set(l []api.Sym, p api.Part) []api.Sym {
	return put(l, api.Sym{Kind: api.Scal, R: slices.Clone(p.R)})
}

func (m *maker) octets(l []api.Sym, p api.Part) []api.Sym {
	return put(l, api.Sym{Kind: api.Byte, R: slices.Clone(p.R)})
}

func (m *maker) seq(l []api.Sym, p api.Part) []api.Sym {
	for _, x := range p.L {
		if m.why != api.OK {
			return l
		}
		l = m.part(l, x)
	}
	return l
}

func (m *maker) or(l []api.Sym, p api.Part) []api.Sym {
	return m.anew(l, p, m.each)
}

func (m *maker) star(l []api.Sym, p api.Part) []api.Sym {
	return m.anew(l, p, m.oftenOrNot)
}

func (m *maker) plus(l []api.Sym, p api.Part) []api.Sym {
	return m.anew(l, p, m.oftenOrOnce)
}

func (m *maker) opt(l []api.Sym, p api.Part) []api.Sym {
	return m.anew(l, p, m.onceOrNot)
}

// anew puts a new nonterminal behind all there are; its alternatives are told by its part and the symbol that it is.
func (m *maker) anew(l []api.Sym, p api.Part, alternatives func(api.Part, api.Sym) [][]api.Sym) []api.Sym {
	n := len(m.made)
	if n == api.MaxNon {
		m.stop(p.At, api.ErrSize)
		return l
	}
	m.made = append(m.made, api.Prod{})
	self := api.Sym{Kind: api.Non, N: n}
	m.finish(n, p, alternatives(p, self))
	return put(l, self)
}

func (m *maker) each(p api.Part, _ api.Sym) [][]api.Sym {
	var a [][]api.Sym
	for _, x := range p.L {
		if m.why != api.OK {
			return a
		}
		l := m.part(nil, x)
		// One too many is as wrong as more of them: those are made, as something may be wrong within, but not kept.
		if len(a) <= api.MaxAlt {
			a = append(a, l)
		}
	}
	return a
}

func (m *maker) oftenOrNot(p api.Part, self api.Sym) [][]api.Sym {
	return [][]api.Sym{put(m.only(p), self), nil}
}

func (m *maker) oftenOrOnce(p api.Part, self api.Sym) [][]api.Sym {
	l := m.only(p)
	return [][]api.Sym{put(copied(l), self), l}
}

func (m *maker) onceOrNot(p api.Part, _ api.Sym) [][]api.Sym {
	return [][]api.Sym{m.only(p), nil}
}

// only is what is made of the one part that a part must have.
func (m *maker) only(p api.Part) []api.Sym {
	if len(p.L) != 1 {
		m.stop(p.At, api.ErrSize)
		return nil
	}
	return m.part(nil, p.L[0])
}

// put is symbols with one more behind them.
// One too many is as wrong as more of them: those are not kept, so that a long text takes little memory.
func put(l []api.Sym, s api.Sym) []api.Sym {
	if tooLong(l) {
		return l
	}
	return append(l, s)
}

// copied is symbols that share no memory with those that are given.
func copied(l []api.Sym) []api.Sym {
	l = slices.Clone(l)
	for i := range l {
		l[i].R = slices.Clone(l[i].R)
	}
	return l
}
