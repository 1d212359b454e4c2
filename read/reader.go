package read

import "exegete/api"

// end is the kind of what stands behind the last token, so that there always is a next one, and it tells a place.
const end = -1

// wrong is what a reader panics with: where, and why, tokens are no file's.
type wrong struct {
	at  int
	why api.Errno
}

// look is what tells which part a token may be of: its kind, and which sign it is, if it is one.
type look struct {
	kind int
	sign string
}

func sign(text string) look {
	return look{kind: api.Sign, sign: text}
}

func lookOf(t api.Tok) look {
	if t.Kind == api.Sign {
		return sign(t.Text)
	}
	return look{kind: t.Kind}
}

// reader is tokens that are not read yet, the ways to read atoms, and how many brackets are open.
type reader struct {
	left  []api.Tok
	atoms map[look]func(*reader) api.Part
	deep  int
}

func newReader(toks []api.Tok, size int) *reader {
	return &reader{left: append(toks, api.Tok{Kind: end, At: size}), atoms: atoms()}
}

// atoms are the ways to read an atom, by the look of the token that it begins by.
// Each asks for that token to be the next one.
func atoms() map[look]func(*reader) api.Part {
	return map[look]func(*reader) api.Part{
		{kind: api.Name}:  (*reader).call,
		{kind: api.Lit}:   (*reader).text,
		{kind: api.Class}: (*reader).set,
		{kind: api.Bytes}: (*reader).octets,
		sign("("):         (*reader).group,
	}
}

func (r *reader) next() api.Tok {
	return r.left[0]
}

func (r *reader) sees(l look) bool {
	return lookOf(r.next()) == l
}

// take goes behind the next token, which is not the end.
func (r *reader) take() api.Tok {
	t := r.next()
	r.left = r.left[1:]
	return t
}

func (r *reader) need(l look) api.Tok {
	if !r.sees(l) {
		panic(wrong{r.next().At, api.ErrSyntax})
	}
	return r.take()
}

func (r *reader) file() api.File {
	f := api.File{Keys: r.keys()}
	for len(f.R) == 0 || !r.sees(look{kind: end}) {
		f.R = append(f.R, r.rule(len(f.R)))
	}
	return f
}

func (r *reader) keys() []string {
	if !r.sees(sign("%")) {
		return nil
	}
	r.take()
	var keys []string
	for len(keys) == 0 || r.sees(look{kind: api.Lit}) {
		key := r.need(look{kind: api.Lit})
		if len(keys) == api.MaxKeys {
			panic(wrong{key.At, api.ErrSize})
		}
		keys = append(keys, key.Text)
	}
	r.need(sign(";"))
	return keys
}

// rule is a rule with so many ahead of it.
func (r *reader) rule(ahead int) api.Rule {
	marks := r.marks()
	name := r.need(look{kind: api.Name})
	if ahead == api.MaxRules {
		panic(wrong{name.At, api.ErrSize})
	}
	r.need(sign("="))
	e := r.alt()
	not := r.not()
	r.need(sign(";"))
	return api.Rule{Name: name.Text, Marks: marks, E: e, Not: not, At: name.At}
}

func (r *reader) marks() int {
	bits := 0
	for r.sees(look{kind: api.Mark}) {
		bits |= markBit(r.take().Text)
	}
	return bits
}

// not is the set that may not follow a rule; none, if nothing is said of it.
func (r *reader) not() []api.Range {
	if !r.sees(sign("/")) {
		return nil
	}
	r.take()
	return r.need(look{kind: api.Class}).R
}

func markBit(name string) int {
	switch name {
	case "long":
		return api.Long
	case "res":
		return api.Res
	case "off":
		return api.Off
	case "block":
		return api.Block
	case "align":
		return api.Align
	case "sync":
		return api.Sync
	}
	return 0
}
