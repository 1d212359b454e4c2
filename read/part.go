package read

import "exegete/api"

func (r *reader) alt() api.Part {
	l := []api.Part{r.seq()}
	for r.sees(sign("|")) {
		r.take()
		l = append(l, r.seq())
	}
	return theOne(api.Or, l, l[0].At)
}

func (r *reader) seq() api.Part {
	// An empty seq has no token of its own: it begins where the one behind it does.
	at := r.next().At
	var l []api.Part
	for {
		atom, is := r.atoms[lookOf(r.next())]
		if !is {
			return theOne(api.Seq, l, at)
		}
		l = append(l, r.often(atom(r)))
	}
}

// theOne is the part of a list, if it is one, else a part of that kind of all of them.
func theOne(kind int, l []api.Part, at int) api.Part {
	if len(l) == 1 {
		return l[0]
	}
	return api.Part{Kind: kind, L: l, At: at}
}

// often is an atom with the sign behind it that tells how often it is, if there is one.
func (r *reader) often(atom api.Part) api.Part {
	kind, is := oftenKind(lookOf(r.next()))
	if !is {
		return atom
	}
	r.take()
	return api.Part{Kind: kind, L: []api.Part{atom}, At: atom.At}
}

func oftenKind(l look) (int, bool) {
	switch l.sign {
	case "*":
		return api.Star, true
	case "+":
		return api.Plus, true
	case "?":
		return api.Opt, true
	}
	return 0, false
}

func (r *reader) call() api.Part {
	t := r.take()
	return api.Part{Kind: api.Call, Text: t.Text, At: t.At}
}

func (r *reader) text() api.Part {
	t := r.take()
	return api.Part{Kind: api.Text, Text: t.Text, At: t.At}
}

func (r *reader) set() api.Part {
	t := r.take()
	return api.Part{Kind: api.Set, R: t.R, At: t.At}
}

func (r *reader) octets() api.Part {
	t := r.take()
	return api.Part{Kind: api.Octs, R: t.R, At: t.At}
}

func (r *reader) group() api.Part {
	open := r.take()
	if r.deep == api.MaxNest {
		panic(wrong{open.At, api.ErrDeep})
	}
	r.deep++
	p := r.alt()
	r.need(sign(")"))
	r.deep--
	return p
}
