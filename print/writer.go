package print

import (
	"strings"

	"exegete/api"
	"exegete/token"
)

// mostDeep is more levels than the document bounds: parts that are within themselves have no end but this.
const mostDeep = 1 << 17

// writer is a text that is being written, and how long it may be; over, if it would be longer, or its parts are too deep.
type writer struct {
	out  strings.Builder
	most int
	deep int
	over bool
}

// text is what was written; nothing and false, if it is not all of it.
func (w *writer) text() (string, bool) {
	if w.over {
		return "", false
	}
	return w.out.String(), true
}

func (w *writer) put(s string) {
	if len(s) > w.most-w.out.Len() {
		w.over = true
	}
	if !w.over {
		w.out.WriteString(s)
	}
}

// each goes through a list and writes of each element what write does, with a text between two of them.
func each[T any](w *writer, l []T, between string, write func(T)) {
	for i, x := range l {
		// Nothing that is written now is of any use: a list of lists may be far longer than what is written of it.
		if w.over {
			return
		}
		if i > 0 {
			w.put(between)
		}
		write(x)
	}
}

func (w *writer) file(f api.File) {
	if len(f.Keys) > 0 {
		w.put("% ")
		each(w, f.Keys, " ", w.key)
		w.put(";\n")
	}
	each(w, f.R, "", w.rule)
}

func (w *writer) key(text string) {
	w.token(api.Tok{Kind: api.Lit, Text: text})
}

func (w *writer) rule(r api.Rule) {
	w.marks(r.Marks)
	w.put(r.Name)
	w.put(" = ")
	w.part(r.E)
	if len(r.Not) > 0 {
		w.put(" / ")
		w.token(api.Tok{Kind: api.Class, R: r.Not})
	}
	w.put(";\n")
}

func (w *writer) marks(bits int) {
	for _, m := range marks {
		if bits&m.bit != 0 {
			w.put("@" + m.name + " ")
		}
	}
}

func (w *writer) token(t api.Tok) {
	w.put(token.Text(t))
}

func (w *writer) part(p api.Part) {
	switch p.Kind {
	case api.Call:
		w.token(api.Tok{Kind: api.Name, Text: p.Text})
	case api.Text:
		w.token(api.Tok{Kind: api.Lit, Text: p.Text})
	case api.Set:
		w.token(api.Tok{Kind: api.Class, R: p.R})
	case api.Octs:
		w.token(api.Tok{Kind: api.Bytes, R: p.R})
	case api.Seq, api.Or, api.Star, api.Plus, api.Opt:
		w.parts(p)
	}
}

// parts is what is written of a part that has parts.
func (w *writer) parts(p api.Part) {
	if w.deep == mostDeep {
		w.over = true
		return
	}
	w.deep++
	each(w, p.L, forms[p.Kind].between, func(x api.Part) { w.within(p.Kind, x) })
	w.put(forms[p.Kind].behind)
	w.deep--
}

// within is what is written of a part that is one of those of a part of the kind outer.
func (w *writer) within(outer int, p api.Part) {
	if !wraps(outer, p.Kind) {
		w.part(p)
		return
	}
	w.put("(")
	w.part(p)
	w.put(")")
}
