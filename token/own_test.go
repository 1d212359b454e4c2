package token_test

import (
	"fmt"
	"regexp"
	"slices"
	"strconv"
	"strings"
	"unicode/utf8"

	"exegete/api"
)

// Another reckoning of the chapter, by patterns: what is read, what may be, and as what text.

const top = 1114111

var (
	nameForm  = regexp.MustCompile(`^[a-z][a-z0-9_]*`)
	markForm  = regexp.MustCompile(`^@(long|res|off|block|align|sync)`)
	signForm  = regexp.MustCompile(`^[=|;()*+?/%]`)
	litForm   = regexp.MustCompile(`^"([ !#-\[\]-~]|\\x[0-9a-f]{2})+"`)
	pieceForm = regexp.MustCompile(`\\x..|.`)
	classForm = regexp.MustCompile(`^\[\^?(` + scalForm + `(-` + scalForm + `)?)*\]`)
	bytesForm = regexp.MustCompile(`^<([0-9a-f]{2}(-[0-9a-f]{2})?)*>`)
	scalItem  = regexp.MustCompile(`(` + scalForm + `)(?:-(` + scalForm + `))?`)
	byteItem  = regexp.MustCompile(`([0-9a-f]{2})(?:-([0-9a-f]{2}))?`)
)

const scalForm = `(?:\\u[0-9a-f]{1,6};|[^\x00-\x1f\[\]^\\-])`

// of is ranges, from every first number to the one behind it.
func of(n ...int) []api.Range {
	var l []api.Range
	for i := 0; i+1 < len(n); i += 2 {
		l = append(l, api.Range{Lo: n[i], Hi: n[i+1]})
	}
	return l
}

// ownSet is the ranges of the numbers that is holds of; it changes at some of the borders alone.
func ownSet(borders []int, is func(int) bool) []api.Range {
	slices.Sort(borders)
	var l []api.Range
	for i, from := range borders {
		upto := top
		if i+1 < len(borders) {
			upto = borders[i+1] - 1
		}
		switch last := len(l) - 1; {
		case from > upto || !is(from):
		case last >= 0 && l[last].Hi == from-1:
			l[last].Hi = upto
		default:
			l = append(l, api.Range{Lo: from, Hi: upto})
		}
	}
	return l
}

func isOf(l []api.Range, n int) bool {
	return slices.ContainsFunc(l, func(r api.Range) bool { return r.Lo <= n && n <= r.Hi })
}

// ownEnd is the number that an end of an item tells.
func ownEnd(s string, kind int) int {
	if kind == api.Class && s[0] != '\\' {
		r, _ := utf8.DecodeRuneInString(s)
		return int(r)
	}
	n, _ := strconv.ParseInt(strings.Trim(s, `\u;`), 16, 64)
	return int(n)
}

// ownItems are the items within a class, or bytes; false, if one is turned round, or no scalar.
func ownItems(s string, kind int) ([]api.Range, bool) {
	form := scalItem
	if kind == api.Bytes {
		form = byteItem
	}
	var l []api.Range
	for _, m := range form.FindAllStringSubmatch(s, -1) {
		r := api.Range{Lo: ownEnd(m[1], kind), Hi: ownEnd(m[1], kind)}
		if m[2] != "" {
			r.Hi = ownEnd(m[2], kind)
		}
		if r.Lo > r.Hi || kind == api.Class && !(utf8.ValidRune(rune(r.Lo)) && utf8.ValidRune(rune(r.Hi))) {
			return nil, false
		}
		l = append(l, r)
	}
	return l, true
}

// ownClass is the set of a class, or of bytes, that some form matched.
func ownClass(s string, kind int) ([]api.Range, bool) {
	inner := s[1 : len(s)-1]
	not := kind == api.Class && strings.HasPrefix(inner, "^")
	l, is := ownItems(strings.TrimPrefix(inner, "^"), kind)
	borders := []int{0, 55296, 57344}
	for _, r := range l {
		borders = append(borders, r.Lo, r.Hi+1)
	}
	set := ownSet(borders, func(n int) bool { return (n < 55296 || n > 57343) && isOf(l, n) != not })
	return set, is && utf8.ValidString(s)
}

// ownToken is the token that s begins by, and its text; false, if there is none.
func ownToken(s string) (api.Tok, string, bool) {
	if m := nameForm.FindString(s); m != "" {
		return api.Tok{Kind: api.Name, Text: m}, m, len(m) <= 12
	}
	if m := markForm.FindString(s); m != "" {
		return api.Tok{Kind: api.Mark, Text: m[1:]}, m, nameForm.FindString(s[1:]) == m[1:]
	}
	if m := signForm.FindString(s); m != "" {
		return api.Tok{Kind: api.Sign, Text: m}, m, true
	}
	if m := litForm.FindString(s); m != "" {
		text := pieceForm.ReplaceAllStringFunc(m[1:len(m)-1], func(p string) string {
			if len(p) == 1 {
				return p
			}
			n, _ := strconv.ParseUint(p[2:], 16, 8)
			return string([]byte{byte(n)})
		})
		return api.Tok{Kind: api.Lit, Text: text}, m, true
	}
	if m := classForm.FindString(s); m != "" {
		set, is := ownClass(m, api.Class)
		return api.Tok{Kind: api.Class, R: set}, m, is
	}
	if m := bytesForm.FindString(s); m != "" {
		set, is := ownClass(m, api.Bytes)
		return api.Tok{Kind: api.Bytes, R: set}, m, is
	}
	return api.Tok{}, "", false
}

// ownAll is what All answers.
func ownAll(s string) ([]api.Tok, int, api.Errno) {
	if len(s) > 3000 {
		return nil, 0, api.ErrSize
	}
	var l []api.Tok
	for rest := strings.TrimLeft(s, " \t\n\r"); rest != ""; rest = strings.TrimLeft(rest, " \t\n\r") {
		at := len(s) - len(rest)
		t, text, is := ownToken(rest)
		if !is {
			return nil, at, api.ErrSign
		}
		if len(l) == 600 {
			return nil, at, api.ErrSize
		}
		t.At = at
		l = append(l, t)
		rest = rest[len(text):]
	}
	return l, len(s), api.OK
}

// ownScalar is an end of a class's item.
func ownScalar(r int) string {
	if r >= 32 && r <= 126 && !strings.ContainsRune(`[]^-\`, rune(r)) {
		return string(rune(r))
	}
	return fmt.Sprintf(`\u%x;`, r)
}

func ownByte(n int) string {
	return fmt.Sprintf("%02x", n)
}

func ownRanges(l []api.Range, end func(int) string) string {
	s := ""
	for _, r := range l {
		s += end(r.Lo)
		if r.Hi > r.Lo {
			s += "-" + end(r.Hi)
		}
	}
	return s
}

// inOrder tells whether ranges are, up to high.
func inOrder(l []api.Range, high int) bool {
	least := 0
	for _, r := range l {
		if r.Lo < least || r.Hi < r.Lo || r.Hi > high {
			return false
		}
		least = r.Hi + 2
	}
	return true
}

// ownText is what Text answers: nothing, of a token that may not be.
func ownText(t api.Tok) string {
	s := ""
	switch bare, textless := len(t.R) == 0, t.Text == ""; {
	case t.Kind == api.Name && bare && len(t.Text) <= 12 && nameForm.FindString(t.Text) == t.Text:
		s = t.Text
	case t.Kind == api.Sign && bare && signForm.FindString(t.Text) == t.Text:
		s = t.Text
	case t.Kind == api.Mark && bare && markForm.FindString("@"+t.Text) == "@"+t.Text:
		s = "@" + t.Text
	case t.Kind == api.Lit && bare && !textless:
		for _, c := range []byte(t.Text) {
			if c < 32 || c > 126 || c == 34 || c == 92 {
				s += fmt.Sprintf(`\x%02x`, c)
			} else {
				s += string(rune(c))
			}
		}
		s = `"` + s + `"`
	case t.Kind == api.Class && textless && inOrder(t.R, top) && !gapped(t.R):
		s = "[" + ownRanges(t.R, ownScalar) + "]"
	case t.Kind == api.Bytes && textless && inOrder(t.R, 255):
		s = "<" + ownRanges(t.R, ownByte) + ">"
	}
	if len(s) > 3000 {
		return ""
	}
	return s
}

// gapped tells whether some number is of l that is no scalar.
func gapped(l []api.Range) bool {
	return slices.ContainsFunc(l, func(r api.Range) bool { return r.Lo <= 57343 && r.Hi >= 55296 })
}
