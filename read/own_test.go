package read_test

import (
	"regexp"
	"slices"
	"strings"

	"exegete/api"
	"exegete/token"
)

// Another reckoning of the chapter: what is wrong by a pattern of whole files, and parts by splitting tokens at brackets.

// signsOf is tokens as a text of one byte each: a letter of the kind, or the sign.
func signsOf(toks []api.Tok) string {
	var out strings.Builder
	for _, t := range toks {
		if t.Kind == api.Sign {
			out.WriteString(t.Text)
		} else {
			out.WriteByte("nlcb m"[t.Kind])
		}
	}
	return out.String()
}

// fileForm is a pattern of a file's signs, without its limits. As a seq may be empty, an alt is items and | in any order.
var fileForm = func() *regexp.Regexp {
	alt := ``
	for range api.MaxNest + 1 {
		alt = `(?:(?:[nlcb]|\(` + alt + `\))[*+?]?|\|)*`
	}
	return regexp.MustCompile(`^(?:%l+;)?(?:m*n=` + alt + `(?:/c)?;)+$`)
}()

// canGoOn tells whether signs are the beginning of a file's, but for its limits.
func canGoOn(signs string) bool {
	open := max(0, strings.Count(signs, "(")-strings.Count(signs, ")"))
	for _, rest := range []string{"", strings.Repeat(")", open) + ";", "=;", "n=;", "c;", "l;n=;", ";n=;"} {
		if fileForm.MatchString(signs + rest) {
			return true
		}
	}
	return false
}

// ownSyntax is which sign can't follow; how many there are, if they end too soon; -1, if they are a file's.
func ownSyntax(signs string) int {
	for i := range len(signs) {
		if !canGoOn(signs[:i+1]) {
			return i
		}
	}
	if !fileForm.MatchString(signs) {
		return len(signs)
	}
	return -1
}

// ownDeep is the first ( that is within 12; -1, if there is none.
func ownDeep(signs string) int {
	open := 0
	for i, c := range signs {
		switch c {
		case '(':
			if open == 12 {
				return i
			}
			open++
		case ')':
			open--
		}
	}
	return -1
}

// ownKey is the ninth of the keys; -1, if there are fewer.
func ownKey(signs string) int {
	if strings.HasPrefix(signs, "%lllllllll") {
		return 9
	}
	return -1
}

// ownRule is the name of the seventeenth rule; -1, if there are fewer. A rule has one ; and so have the keys.
func ownRule(signs string) int {
	ahead := 16
	if strings.HasPrefix(signs, "%") {
		ahead++
	}
	for i, c := range signs {
		switch {
		case ahead == 0 && c == 'n':
			return i
		case ahead == 0 && c != 'm':
			return -1
		case c == ';':
			ahead--
		}
	}
	return -1
}

// ownFault is which sign is wrong first, and how; -1, and OK, if none is.
func ownFault(signs string) (int, api.Errno) {
	first, e := -1, api.OK
	for _, x := range []struct {
		at int
		e  api.Errno
	}{{ownDeep(signs), api.ErrDeep}, {ownSyntax(signs), api.ErrSyntax}, {ownKey(signs), api.ErrSize}, {ownRule(signs), api.ErrSize}} {
		if x.at >= 0 && (first < 0 || x.at < first) {
			first, e = x.at, x.e
		}
	}
	return first, e
}

// ownFile is what File answers.
func ownFile(s string) (api.File, int, api.Errno) {
	toks, at, e := token.All(s)
	if e != api.OK {
		return api.File{}, at, e
	}
	switch i, e := ownFault(signsOf(toks)); {
	case i < 0:
		return ownTree(toks), len(s), api.OK
	case i < len(toks):
		return api.File{}, toks[i].At, e
	default:
		return api.File{}, len(s), e
	}
}

// ownTree is the file of tokens that are one's.
func ownTree(toks []api.Tok) api.File {
	var f api.File
	for i, l := range cut(toks, ";") {
		if i == 0 && isSign(l[0], "%") {
			for _, t := range l[1 : len(l)-1] {
				f.Keys = append(f.Keys, t.Text)
			}
		} else {
			f.R = append(f.R, ownRuleOf(l))
		}
	}
	return f
}

// ownRuleOf is the rule of tokens up to its ;, which is the last of them.
func ownRuleOf(l []api.Tok) api.Rule {
	var r api.Rule
	for ; l[0].Kind == api.Mark; l = l[1:] {
		r.Marks |= map[string]int{"long": 1, "res": 2, "off": 4, "block": 8, "align": 16, "sync": 32}[l[0].Text]
	}
	r.Name, r.At = l[0].Text, l[0].At
	l = l[2:]
	if i := slices.IndexFunc(l, func(t api.Tok) bool { return isSign(t, "/") }); i >= 0 {
		r.Not = l[i+1].R
		l = l[:i+1]
	}
	r.E = ownAlt(l)
	return r
}

// ownAlt is the alt of tokens up to the one behind it, which is the last of them.
func ownAlt(l []api.Tok) api.Part {
	var seqs []api.Part
	for _, x := range cut(l, "|") {
		seqs = append(seqs, ownSeq(x))
	}
	if len(seqs) > 1 {
		return api.Part{Kind: api.Or, L: seqs, At: seqs[0].At}
	}
	return seqs[0]
}

// ownSeq is the seq of tokens up to the one behind it, which is the last of them.
func ownSeq(l []api.Tok) api.Part {
	var items []api.Part
	for rest := l; len(rest) > 1; {
		many := closed(rest)
		p := ownAtom(rest[:many])
		rest = rest[many:]
		if kind, is := map[string]int{"*": api.Star, "+": api.Plus, "?": api.Opt}[rest[0].Text]; is && rest[0].Kind == api.Sign {
			p = api.Part{Kind: kind, L: []api.Part{p}, At: p.At}
			rest = rest[1:]
		}
		items = append(items, p)
	}
	if len(items) == 1 {
		return items[0]
	}
	return api.Part{Kind: api.Seq, L: items, At: l[0].At}
}

func ownAtom(l []api.Tok) api.Part {
	if len(l) > 1 {
		return ownAlt(l[1:])
	}
	return api.Part{Kind: []int{api.Call, api.Text, api.Set, api.Octs}[l[0].Kind], Text: l[0].Text, R: l[0].R, At: l[0].At}
}

// closed is how many tokens an atom has: one, or all up to the ) of its (.
func closed(l []api.Tok) int {
	open := 0
	for i, t := range l {
		if isSign(t, "(") {
			open++
		}
		if isSign(t, ")") {
			open--
		}
		if open == 0 {
			return i + 1
		}
	}
	return len(l)
}

// cut is tokens up to each of those signs that is within no brackets, with it, and those behind the last one.
func cut(l []api.Tok, text string) [][]api.Tok {
	var out [][]api.Tok
	open, from := 0, 0
	for i, t := range l {
		switch {
		case isSign(t, "("):
			open++
		// The token behind an alt within brackets is their ), of which no ( is among the tokens.
		case isSign(t, ")"):
			open--
		case open == 0 && isSign(t, text):
			out = append(out, l[from:i+1])
			from = i + 1
		}
	}
	if from < len(l) {
		out = append(out, l[from:])
	}
	return out
}

func isSign(t api.Tok, text string) bool {
	return t.Kind == api.Sign && t.Text == text
}
