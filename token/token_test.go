package token_test

import (
	"fmt"
	"math"
	"math/rand"
	"slices"
	"strings"
	"testing"

	"exegete/api"
	"exegete/token"
)

// The calls have the signatures of the chapter.
var (
	_ func(s string) ([]api.Tok, int, api.Errno) = token.All
	_ func(t api.Tok) string                     = token.Text
	_ func(t api.Tok) bool                       = token.May
	_ func(a, b api.Tok) bool                    = token.Same
)

func tok(kind int, text string, at int) api.Tok {
	return api.Tok{Kind: kind, Text: text, At: at}
}

func set(kind, at int, n ...int) api.Tok {
	return api.Tok{Kind: kind, R: of(n...), At: at}
}

func sameTok(a, b api.Tok) bool {
	return a.Kind == b.Kind && a.Text == b.Text && slices.Equal(a.R, b.R) && a.At == b.At
}

// reads fails the test if All tells other tokens of s.
func reads(t *testing.T, s string, want ...api.Tok) {
	t.Helper()
	if l, at, e := token.All(s); e != api.OK || at != len(s) || !slices.EqualFunc(l, want, sameTok) {
		t.Errorf("All(%q) = %v, %d, %d; want %v, %d, 0", s, l, at, e, want, len(s))
	}
}

// refuses fails the test if All tells anything but the error, there.
func refuses(t *testing.T, s string, at int, e api.Errno) {
	t.Helper()
	if l, gotAt, gotE := token.All(s); gotE != e || gotAt != at || len(l) != 0 {
		t.Errorf("All(%q) = %v, %d, %d; want nothing, %d, %d", s, l, gotAt, gotE, at, e)
	}
}

// asOwn fails the test if All tells anything but what the other reckoning does, or what is read is not read from its text.
func asOwn(t *testing.T, s string) {
	l, at, e := token.All(s)
	wantL, wantAt, wantE := ownAll(s)
	if at != wantAt || e != wantE || !slices.EqualFunc(l, wantL, sameTok) {
		t.Helper()
		t.Fatalf("All(%q) = %v, %d, %d; want %v, %d, %d", s, l, at, e, wantL, wantAt, wantE)
	}
	for _, x := range l {
		textAsOwn(t, x)
	}
}

// textAsOwn fails the test if May and Text tell anything but what the other reckoning does.
func textAsOwn(t *testing.T, x api.Tok) {
	want := ownText(x)
	if got := token.Text(x); got != want || token.May(x) != (want != "") {
		t.Helper()
		t.Fatalf("Text(%v) = %q, May is %t; want %q", x, got, token.May(x), want)
	}
}

// texts hands on all texts of up to most of the pieces, between ahead and behind.
func texts(ahead, behind string, most int, pieces ...string) func(yield func(string) bool) {
	return func(yield func(string) bool) {
		var grow func(s string, left int) bool
		grow = func(s string, left int) bool {
			if !yield(ahead + s + behind) {
				return false
			}
			for _, p := range pieces {
				if left > 0 && !grow(s+p, left-1) {
					return false
				}
			}
			return true
		}
		grow("", most)
	}
}

// P5.1: no bytes at all, blanks alone, blanks about tokens and between them, and tokens without any between.
func TestBlanks(t *testing.T) {
	for _, s := range []string{"", " ", "\t", "\n", "\r", " \t\n\r", "\r\n\t \r\n", strings.Repeat(" ", 3000)} {
		reads(t, s)
	}
	reads(t, " \t\r\na\n= \r;\t", tok(api.Name, "a", 4), tok(api.Sign, "=", 6), tok(api.Sign, ";", 9))
	reads(t, `a"b"@res[c]<0d>e`, tok(api.Name, "a", 0), tok(api.Lit, "b", 1), tok(api.Mark, "res", 4), set(api.Class, 8, 'c', 'c'), set(api.Bytes, 11, 13, 13), tok(api.Name, "e", 15))
	for c := range 256 {
		switch s := string([]byte{'a', byte(c), 'b'}); c {
		case 32, 9, 10, 13:
			reads(t, s, tok(api.Name, "a", 0), tok(api.Name, "b", 2))
		default:
			asOwn(t, s)
		}
	}
	for _, s := range []string{"\v", "\f", "\x00", "\x85", "\xa0", "\u00a0", "\u2028", "\ufeff"} {
		refuses(t, s, 0, api.ErrSign)
		refuses(t, "a "+s+" b", 2, api.ErrSign)
	}
}

// P5.1: the example.
func TestExample(t *testing.T) {
	reads(t, "a = [a-c];", tok(api.Name, "a", 0), tok(api.Sign, "=", 2), set(api.Class, 4, 'a', 'c'), tok(api.Sign, ";", 9))
}

// P5.1: names of 12 bytes and of 13, with digits and _ behind the first letter, and at their beginning.
func TestNames(t *testing.T) {
	for _, s := range []string{"a", "z", "abcdefghijkl", "a_", "a__", "a0", "a9_", "a_1z", "z0123456789_", "a___________", "long", "res"} {
		reads(t, s, tok(api.Name, s, 0))
		reads(t, "  "+s+"\n", tok(api.Name, s, 2))
	}
	for _, s := range []string{"abcdefghijklm", "a012345678901", "a____________", "abcdefghijkl_", strings.Repeat("x", 2990)} {
		refuses(t, s, 0, api.ErrSign)
		refuses(t, "ab "+s, 3, api.ErrSign)
	}
	for _, s := range []string{"_", "_a", "0", "0a", "9", "A", "Z", "`", "{", "\xc3\xa4"} {
		refuses(t, s, 0, api.ErrSign)
	}
	refuses(t, "aB", 1, api.ErrSign)
	refuses(t, "a-b", 1, api.ErrSign)
	refuses(t, "a\xc3\xa4", 1, api.ErrSign)
	refuses(t, "abcdefghijklA", 12, api.ErrSign)
	reads(t, "abcdefghijkl abcdefghijkl", tok(api.Name, "abcdefghijkl", 0), tok(api.Name, "abcdefghijkl", 13))
}

// P5.1: each mark, names that are none, and @ alone.
func TestMarks(t *testing.T) {
	marks := []string{"long", "res", "off", "block", "align", "sync"}
	for _, m := range marks {
		reads(t, "@"+m, tok(api.Mark, m, 0))
		reads(t, "@"+m+"@"+m+" x", tok(api.Mark, m, 0), tok(api.Mark, m, len(m)+1), tok(api.Name, "x", 2*len(m)+3))
		for _, s := range []string{"@" + m + "x", "@" + m + "_", "@" + m + "1", "@" + m + m, "@ " + m, "@@" + m, "@" + m[:len(m)-1], "@" + strings.ToUpper(m), "@" + m[1:], "@_" + m} {
			refuses(t, s, 0, api.ErrSign)
		}
		refuses(t, "@"+m+"L", len(m)+1, api.ErrSign)
	}
	for _, s := range []string{"@", "@ ", "@1", "@=", "@name", "@a", "@abcdefghijklm", "@\"long\"", "@@"} {
		refuses(t, s, 0, api.ErrSign)
		refuses(t, "a = "+s, 4, api.ErrSign)
	}
}

// P5.1: each byte alone: the signs, letters, and no other one.
func TestEachByte(t *testing.T) {
	for c := range 256 {
		s := string([]byte{byte(c)})
		switch {
		case strings.Contains("=|;()*+?/%", s):
			reads(t, s, tok(api.Sign, s, 0))
			reads(t, s+s, tok(api.Sign, s, 0), tok(api.Sign, s, 1))
		case c >= 'a' && c <= 'z':
			reads(t, s, tok(api.Name, s, 0))
		case strings.Contains(" \t\n\r", s):
			reads(t, s)
		default:
			refuses(t, s, 0, api.ErrSign)
			refuses(t, "( "+s, 2, api.ErrSign)
		}
	}
	reads(t, "=|;()*+?/%", tok(api.Sign, "=", 0), tok(api.Sign, "|", 1), tok(api.Sign, ";", 2), tok(api.Sign, "(", 3), tok(api.Sign, ")", 4),
		tok(api.Sign, "*", 5), tok(api.Sign, "+", 6), tok(api.Sign, "?", 7), tok(api.Sign, "/", 8), tok(api.Sign, "%", 9))
}

// P5.1: literals of one byte, of none, with each byte, itself and by HEX.
func TestLits(t *testing.T) {
	refuses(t, `""`, 0, api.ErrSign)
	refuses(t, `a""`, 1, api.ErrSign)
	for c := range 256 {
		b := string([]byte{byte(c)})
		hex := fmt.Sprintf(`"\x%02x"`, c)
		reads(t, hex, tok(api.Lit, b, 0))
		switch plain := `"` + b + `"`; {
		case c == 34:
			refuses(t, plain, 0, api.ErrSign)
			refuses(t, `"x`+b+`y"`, 4, api.ErrSign)
		case c < 32, c == 92, c > 126:
			refuses(t, plain, 0, api.ErrSign)
			refuses(t, ` "x`+b+`y"`, 1, api.ErrSign)
		default:
			reads(t, plain, tok(api.Lit, b, 0))
			reads(t, ` "x`+b+`\x00"`, tok(api.Lit, "x"+b+"\x00", 1))
		}
	}
	reads(t, `"@long [a] <00> ;"`, tok(api.Lit, "@long [a] <00> ;", 0))
	reads(t, `"i\x66\xff\x22\x5cx22"`, tok(api.Lit, "if\xff\"\\x22", 0))
	reads(t, `"a""b"`, tok(api.Lit, "a", 0), tok(api.Lit, "b", 3))
	for _, s := range []string{
		`"`, `"a`, `"\`, `"\"`, `"\x`, `"\x"`, `"\x6`, `"\x6"`, `"\x66`, `"\x6g"`, `"\xg6"`, `"\x6A"`, `"\xF0"`, `"\n"`, `"\\"`, `"\""`, `"\u61;"`, `"\X66"`,
		"\"a\nb\"", "\"a\tb\"", "\"\xc3\xa4\"", "\"\x7f\"", "\"\x1f\"",
	} {
		refuses(t, s, 0, api.ErrSign)
		refuses(t, "= "+s, 2, api.ErrSign)
	}
}

// P5.1: classes, with and without ^, with one sign, several, and ranges.
func TestClasses(t *testing.T) {
	for _, c := range []struct {
		s    string
		want []api.Range
	}{
		{`[]`, nil}, {`[^]`, of(0, 55295, 57344, top)},
		{`[a]`, of('a', 'a')}, {`[^a]`, of(0, 96, 98, 55295, 57344, top)},
		{`[abc]`, of('a', 'c')}, {`[cab]`, of('a', 'c')}, {`[aca]`, of('a', 'a', 'c', 'c')}, {`[a-cb-e]`, of('a', 'e')}, {`[a-cd-f]`, of('a', 'f')}, {`[d-fa-c]`, of('a', 'f')},
		{`[a-ce-g]`, of('a', 'c', 'e', 'g')}, {`[e-ga-c]`, of('a', 'c', 'e', 'g')}, {`[^a-ce-g]`, of(0, 96, 100, 100, 104, 55295, 57344, top)},
		{`[a-a]`, of('a', 'a')}, {`[a-b]`, of('a', 'b')}, {`[ ]`, of(32, 32)}, {`[ -~]`, of(32, 126)}, {`[!-"]`, of(33, 34)},
		{`["@<>;=%(){}]`, of(34, 34, 37, 37, 40, 41, 59, 62, 64, 64, 123, 123, 125, 125)}, {`[u]`, of('u', 'u')}, {`[0-9;a-f]`, of('0', '9', ';', ';', 'a', 'f')},
		{"[\x7f]", of(127, 127)}, {"[\u0080]", of(128, 128)}, {"[\u00e4-\u03b1]", of(228, 945)}, {"[a-\U0010ffff]", of('a', 55295, 57344, top)},
		{"[\ud7ff]", of(55295, 55295)}, {"[\ue000]", of(57344, 57344)}, {"[\ud7ff\ue000]", of(55295, 55295, 57344, 57344)}, {"[\ud7ff-\ue000]", of(55295, 55295, 57344, 57344)},
		{"[^\ud7ff\ue000]", of(0, 55294, 57345, top)}, {"[^\ud7ff-\ue000]", of(0, 55294, 57345, top)}, {"[\ufffd]", of(65533, 65533)}, {"[\U0010ffff]", of(top, top)},
		{`[\u0;]`, of(0, 0)}, {`[\u1f;]`, of(31, 31)}, {`[\u20;]`, of(32, 32)}, {`[\u61;]`, of('a', 'a')}, {`[\u061;]`, of('a', 'a')}, {`[\u0061;]`, of('a', 'a')}, {`[\u00061;]`, of('a', 'a')}, {`[\u000061;]`, of('a', 'a')},
		{`[\ud7ff;]`, of(55295, 55295)}, {`[\ue000;]`, of(57344, 57344)}, {`[\u10ffff;]`, of(top, top)}, {`[\ud7ff;-\ue000;]`, of(55295, 55295, 57344, 57344)}, {`[\ud7fe;-\ue001;]`, of(55294, 55295, 57344, 57345)},
		{`[\u0;-\u10ffff;]`, of(0, 55295, 57344, top)}, {`[^\u0;-\u10ffff;]`, nil}, {`[^\u0;-\ud7ff;\ue000;-\u10ffff;]`, nil}, {`[^\u0;]`, of(1, 55295, 57344, top)}, {`[^\u10ffff;]`, of(0, 55295, 57344, top-1)},
		{`[\u5b;\u5d;\u5e;\u2d;\u5c;]`, of(45, 45, 91, 94)}, {`[\u5b;\u5d;]`, of(91, 91, 93, 93)}, {`[\u5e;]`, of(94, 94)}, {`[^\u5e;]`, of(0, 93, 95, 55295, 57344, top)}, {`[a-\u63;]`, of('a', 'c')}, {`[\u61;-c]`, of('a', 'c')},
		{`[\u61;b\u63;]`, of('a', 'c')}, {`[\u61;;]`, of(';', ';', 'a', 'a')}, {`[\u61;a]`, of('a', 'a')}, {`[^a-c]`, of(0, 96, 100, 55295, 57344, top)},
	} {
		reads(t, c.s, api.Tok{Kind: api.Class, R: c.want})
		reads(t, "a\n"+c.s+";", tok(api.Name, "a", 0), api.Tok{Kind: api.Class, R: c.want, At: 2}, tok(api.Sign, ";", 2+len(c.s)))
	}
}

// P5.1: classes that are none: items that are none, or turned round, bytes that are no scalar's, and digits that tell none.
func TestNoClasses(t *testing.T) {
	for _, s := range []string{
		`[`, `[^`, `[a`, `[^a`, `[a-`, `[a-b`, `[\`, `[\u`, `[\u6`, `[\u61`, `[\u61;`, `[a-\u62;`,
		`[a-]`, `[-a]`, `[-]`, `[a--]`, `[a-b-c]`, `[c-a]`, `[b-a]`, `[a-\u60;]`, `[\u62;-a]`, `[xc-a]`, `[^c-a]`, `[\u10ffff;-\u0;]`, `[\ue000;-\ud7ff;]`,
		`[^^]`, `[a^]`, `[^a^]`, `[[]`, `[[a]]`, `[a[]`, `[\]`, `[\]]`, `[\\]`, `[\-]`, `[\n]`, `[\x61]`, `[\U61;]`,
		`[\u;]`, `[\u61]`, `[\u61 ;]`, `[\u 61;]`, `[\u0000061;]`, `[\u1234567;]`, `[\u0000000;]`, `[\ug;]`, `[\u6g;]`, `[\uE4;]`, `[\u10FFFF;]`, `[\u-61;]`, `[\u+61;]`,
		`[\ud800;]`, `[\udabc;]`, `[\udfff;]`, `[\u110000;]`, `[\uffffff;]`, `[a-\ud800;]`, `[\ud800;-\ue000;]`, `[\ud7ff;-\udfff;]`, `[a-\u110000;]`, `[^\ud800;]`,
		"[\x00]", "[\x09]", "[\x0a]", "[\x1f]", "[a\n]", "[a-\x1f]", "[\x80]", "[\xff]", "[\xc3]", "[a\xc3]", "[\xc3a]", "[\xe2\x82]", "[\xf0\x9f\x98]", "[a-\xff]", "[\xa4\xc3]",
		"[\xc0\x80]", "[\xed\xa0\x80]", "[\xed\xbf\xbf]", "[\xf4\x90\x80\x80]", "[\xc1\xbf]", "[\xf8\x88\x80\x80\x80]", "[^\xff]", "[\xc3",
	} {
		refuses(t, s, 0, api.ErrSign)
		refuses(t, "\"[\" "+s, 4, api.ErrSign)
	}
	for c := range 32 {
		refuses(t, "["+string(rune(c))+"]", 0, api.ErrSign)
		reads(t, fmt.Sprintf(`[\u%x;]`, c), set(api.Class, 0, c, c))
	}
	for c := 0xd7f0; c < 0xe010; c++ {
		if s := fmt.Sprintf(`[\u%x;]`, c); c < 0xd800 || c > 0xdfff {
			reads(t, s, set(api.Class, 0, c, c))
		} else {
			refuses(t, s, 0, api.ErrSign)
		}
	}
	refuses(t, `[a]]`, 3, api.ErrSign)
}

// P5.1: bytes of one HEX, of several, of ranges, and such as are none.
func TestBytes(t *testing.T) {
	for n := range 256 {
		reads(t, fmt.Sprintf("<%02x>", n), set(api.Bytes, 0, n, n))
		reads(t, fmt.Sprintf("<00-%02x>", n), set(api.Bytes, 0, 0, n))
		reads(t, fmt.Sprintf("<%02x-ff>", n), set(api.Bytes, 0, n, 255))
		reads(t, fmt.Sprintf("<%02x-%02x>", n, n), set(api.Bytes, 0, n, n))
		if n > 0 {
			refuses(t, fmt.Sprintf("<%02x-%02x>", n, n-1), 0, api.ErrSign)
		}
	}
	reads(t, "<>", set(api.Bytes, 0))
	reads(t, "<00-ff>", set(api.Bytes, 0, 0, 255))
	reads(t, "<4142>", set(api.Bytes, 0, 65, 66))
	reads(t, "<4241>", set(api.Bytes, 0, 65, 66))
	reads(t, "<414141>", set(api.Bytes, 0, 65, 65))
	reads(t, "<4143>", set(api.Bytes, 0, 65, 65, 67, 67))
	reads(t, "<0f-1f41>", set(api.Bytes, 0, 15, 31, 65, 65))
	reads(t, "<410f-1f>", set(api.Bytes, 0, 15, 31, 65, 65))
	reads(t, "<00-0f10-1f08-18>", set(api.Bytes, 0, 0, 31))
	for _, s := range []string{
		"<", "<0", "<00", "<00-", "<00-0", "<00-01", "<0>", "<000>", "<00-0>", "<0-00>", "<-00>", "<->", "<00->", "<00-01-02>", "<1f-0f>", "<01-00>", "<410f-0e>",
		"<0f-1f 41>", "< 41>", "<41 >", "< >", "<g0>", "<0g>", "<A0>", "<0A>", "<FF>", "<00-FF>", "<\\x41>", "<^00>", "<\"a\">", "<0\xff>", "<<00>", "<00]", "[00>",
	} {
		refuses(t, s, 0, api.ErrSign)
		refuses(t, "a|"+s, 2, api.ErrSign)
	}
	refuses(t, "<00>>", 4, api.ErrSign)
}

// P5.1: a token that breaks off at the end is none, whatever is cut off.
func TestBrokenOff(t *testing.T) {
	for _, s := range []string{`"a\x66b"`, `[^a-c\u3b1;-\u3b2;]`, "[\u00e4-\U0001f600]", `<0f-1f41>`} {
		for cut := 1; cut < len(s); cut++ {
			refuses(t, s[:cut], 0, api.ErrSign)
			refuses(t, "; "+s[:cut], 2, api.ErrSign)
			asOwn(t, s[cut:])
		}
	}
	for _, s := range []string{"@long", "@res", "@off", "@block", "@align", "@sync"} {
		for cut := 1; cut < len(s); cut++ {
			refuses(t, s[:cut], 0, api.ErrSign)
		}
	}
}

// P5.1: 3000 bytes and 3001.
func TestManyBytes(t *testing.T) {
	for _, many := range []int{2999, 3000} {
		lit := `"` + strings.Repeat("x", many-2) + `"`
		reads(t, lit, tok(api.Lit, lit[1:many-1], 0))
		reads(t, strings.Repeat(" ", many))
		reads(t, strings.Repeat("\n", many-1)+"a", tok(api.Name, "a", many-1))
		refuses(t, strings.Repeat(" ", many-1)+"!", many-1, api.ErrSign)
		refuses(t, lit[:many-1]+" ", 0, api.ErrSign)
		reads(t, "["+strings.Repeat("x", many-2)+"]", set(api.Class, 0, 'x', 'x'))
		refuses(t, "["+strings.Repeat("x", many-1), 0, api.ErrSign)
		reads(t, "<"+strings.Repeat("41", many/2-1)+">"+strings.Repeat(" ", many%2), set(api.Bytes, 0, 65, 65))
	}
	for _, many := range []int{3001, 3002, 6000, 1 << 20} {
		for _, s := range []string{" ", "a", "!", "=", "\"", "[", "a ", "\xff"} {
			refuses(t, strings.Repeat(s, many)[:many], 0, api.ErrSize)
		}
	}
	refuses(t, `"`+strings.Repeat("x", 2999)+`"`, 0, api.ErrSize)
}

// P5.1: 600 tokens and 601, and which error is told where several would fit.
func TestManyTokens(t *testing.T) {
	for _, one := range []string{"a ", "=", "@res", `"b"`, "[c]", "<0d>", "\t;"} {
		for _, many := range []int{599, 600} {
			s := strings.Repeat(one, many)
			if l, at, e := token.All(s); e != api.OK || at != len(s) || len(l) != many {
				t.Errorf("%d times %q: %d tokens, %d, %d", many, one, len(l), at, e)
			}
			asOwn(t, s)
		}
		s := strings.Repeat(one, 601)
		at := len(s) - len(strings.TrimLeft(one, "\t"))
		refuses(t, s, at, api.ErrSize)
		refuses(t, s+"!", at, api.ErrSize)
		refuses(t, s[:at]+"!", at, api.ErrSign)
		refuses(t, s[:at]+"[", at, api.ErrSign)
		refuses(t, strings.Repeat(one, 599)+"!", 599*len(one), api.ErrSign)
		reads600 := strings.Repeat(one, 600) + " \n"
		if l, at, e := token.All(reads600); e != api.OK || at != len(reads600) || len(l) != 600 {
			t.Errorf("600 times %q, and blanks: %d tokens, %d, %d", one, len(l), at, e)
		}
	}
	refuses(t, strings.Repeat("=", 3000), 600, api.ErrSize)
	refuses(t, strings.Repeat("=", 3001), 0, api.ErrSize)
	refuses(t, "!"+strings.Repeat("=", 1000), 0, api.ErrSign)
}

// P5.1, P5.2, P5.3: all texts of few pieces, held against the other reckoning.
func TestAllShortTexts(t *testing.T) {
	for s := range texts("", "", 4, " ", "a", "z9", "_", "0", "@", "long", "res", "=", `"`, "[", "]", "<", ">", "\xff") {
		asOwn(t, s)
	}
	for s := range texts("[", "]", 5, "a", "c", "-", "^", `\`, `\u`, "62", ";", "\u00e4", "\xc3") {
		asOwn(t, s)
	}
	for s := range texts("[", "] b", 4, "b", "-", `\ud7ff;`, `\ue000;`, `\ud800;`, `\u10ffff;`, `\u110000;`, `\u0;`, "\ufffd", " ", "[", "]", "\n") {
		asOwn(t, s)
	}
	for s := range texts("[^", "]", 4, "b", "-", `\ud7ff;`, `\ue000;`, `\u10ffff;`, `\u0;`, "^", " ") {
		asOwn(t, s)
	}
	for s := range texts("<", ">", 6, "0", "4", "f", "-", "F", " ") {
		asOwn(t, s)
	}
	for s := range texts(`"`, `"`, 5, "a", " ", `\`, "x", "6", "F", `"`, "\x1f", "~", "\x7f") {
		asOwn(t, s)
	}
}

// P5.1, P5.2, P5.3: long texts, put together of pieces in no order, held against the other reckoning.
func TestScatteredTexts(t *testing.T) {
	pieces := []string{
		" ", "\n", "a", "b_1", "name", "abcdefghijkl", "@long", "@sync", "=", "|", ";", "(", ")*", "+?", "/", "%", `"if"`, `"\x0a\xff"`, `"\x22~"`, "[a-z0-9_]", "[^a]", `[\u0;-\u1f;]`,
		"[\u00e4\u00f6-\u00fc]", `[^\u3b1;-\ue000;]`, "[]", "<>", "<00-7f>", "<ffc3-df>", "abcdefghijklm", "!", "@x", "[z-a]", "\xc3", `"`, "[", "<",
	}
	source := rand.New(rand.NewSource(5))
	for round := range 4000 {
		var s strings.Builder
		good := len(pieces) - 8*(1-round%2)
		for range source.Intn(1 + round%120) {
			s.WriteString(pieces[source.Intn(good)])
			s.WriteString([]string{"", " "}[source.Intn(2)])
		}
		asOwn(t, s.String())
	}
}

// written holds tokens, and their texts, by hand.
var written = []struct {
	t    api.Tok
	want string
}{
	{tok(api.Name, "a", 0), "a"},
	{tok(api.Name, "a", 7), "a"},
	{tok(api.Name, "a", -7), "a"},
	{tok(api.Name, "abcdefghijkl", 0), "abcdefghijkl"},
	{tok(api.Name, "a_9", math.MaxInt), "a_9"},
	{tok(api.Name, "long", 0), "long"},
	{tok(api.Sign, "=", 0), "="},
	{tok(api.Sign, "%", math.MinInt), "%"},
	{tok(api.Mark, "long", 0), "@long"},
	{tok(api.Mark, "res", 0), "@res"},
	{tok(api.Mark, "off", 0), "@off"},
	{tok(api.Mark, "block", 0), "@block"},
	{tok(api.Mark, "align", 3), "@align"},
	{tok(api.Mark, "sync", 0), "@sync"},
	{tok(api.Lit, "a", 0), `"a"`},
	{tok(api.Lit, " ~", 0), `" ~"`},
	{tok(api.Lit, "\x1f\x20\x22\x5c\x7e\x7f", 0), `"\x1f \x22\x5c~\x7f"`},
	{tok(api.Lit, "\x00\n\xff\xc3\xa4", 0), `"\x00\x0a\xff\xc3\xa4"`},
	{tok(api.Lit, `\x41`, 0), `"\x5cx41"`},
	{tok(api.Lit, "[^a-b]<'@", 0), `"[^a-b]<'@"`},
	{set(api.Class, 0), "[]"},
	{api.Tok{Kind: api.Class, R: []api.Range{}}, "[]"},
	{set(api.Class, 0, 'a', 'a'), "[a]"},
	{set(api.Class, 0, 'a', 'b'), "[a-b]"},
	{set(api.Class, 9, 'a', 'c', 'e', 'e', 'g', 'i'), "[a-ceg-i]"},
	{set(api.Class, 0, 0, 0), `[\u0;]`},
	{set(api.Class, 0, 31, 32), `[\u1f;- ]`},
	{set(api.Class, 0, 126, 127), `[~-\u7f;]`},
	{set(api.Class, 0, 45, 45), `[\u2d;]`},
	{set(api.Class, 0, 91, 94), `[\u5b;-\u5e;]`},
	{set(api.Class, 0, 92, 92, 94, 94), `[\u5c;\u5e;]`},
	{set(api.Class, 0, 91, 91, 93, 93), `[\u5b;\u5d;]`},
	{set(api.Class, 0, 34, 34, 59, 60, 62, 62, 64, 64), `[";-<>@]`},
	{set(api.Class, 0, 228, 228), `[\ue4;]`},
	{set(api.Class, 0, 945, 8364), `[\u3b1;-\u20ac;]`},
	{set(api.Class, 0, 55295, 55295, 57344, 57344), `[\ud7ff;\ue000;]`},
	{set(api.Class, 0, 0, 55295, 57344, top), `[\u0;-\ud7ff;\ue000;-\u10ffff;]`},
	{set(api.Class, 0, top, top), `[\u10ffff;]`},
	{set(api.Class, 0, 65535, 65536), `[\uffff;-\u10000;]`},
	{set(api.Bytes, 0), "<>"},
	{set(api.Bytes, 0, 0, 0), "<00>"},
	{set(api.Bytes, 0, 0, 255), "<00-ff>"},
	{set(api.Bytes, 0, 255, 255), "<ff>"},
	{set(api.Bytes, 5, 15, 31, 65, 65), "<0f-1f41>"},
	{set(api.Bytes, 0, 9, 10, 160, 171), "<09-0aa0-ab>"},
}

// P5.2: Text, and May, of what may be, by hand.
func TestText(t *testing.T) {
	for _, c := range written {
		if got := token.Text(c.t); got != c.want || !token.May(c.t) {
			t.Errorf("Text(%v) = %q, May is %t; want %q", c.t, got, token.May(c.t), c.want)
		}
		textAsOwn(t, c.t)
	}
	for c := range 256 {
		b := string([]byte{byte(c)})
		textAsOwn(t, tok(api.Lit, b, 0))
		textAsOwn(t, tok(api.Lit, "x"+b+"y", 0))
		textAsOwn(t, tok(api.Name, b, 0))
		textAsOwn(t, tok(api.Name, "x"+b, 0))
		textAsOwn(t, tok(api.Sign, b, 0))
		textAsOwn(t, tok(api.Mark, "res"+b, 0))
	}
	for r := range top + 1 {
		if r < 4096 || r%97 == 0 || r > 55200 && r < 57500 || r > top-9 {
			textAsOwn(t, set(api.Class, 0, r, r))
			textAsOwn(t, set(api.Class, 0, r, r+1))
			textAsOwn(t, set(api.Class, 0, 'a', r))
		}
	}
	for lo := range 256 {
		for hi := range 256 {
			textAsOwn(t, set(api.Bytes, 0, lo, hi))
		}
	}
}

// P5.2: tokens that may not be.
func TestMayNot(t *testing.T) {
	one := of(1, 1)
	var l []api.Tok
	for _, kind := range []int{math.MinInt, -2, -1, 6, 7, 256, math.MaxInt} {
		l = append(l, tok(kind, "", 0), tok(kind, "a", 0), tok(kind, "=", 0), tok(kind, "long", 0), set(kind, 0, 'a', 'a'))
	}
	for _, s := range []string{"", "1", "_a", "A", "aB", "a b", " a", "a ", "a\n", "=", "@long", `"a"`, "[a]", "<00>", "abcdefghijklm", "a\x00", "a\xc3\xa4", "a="} {
		l = append(l, tok(api.Name, s, 0))
	}
	for _, s := range []string{"", "a", "!", "==", "= ", " =", "@", "[", "<", "\"", "@long", "[a]", "\xff", "\u00a0", ":", ",", "-", "]", ">"} {
		l = append(l, tok(api.Sign, s, 0))
	}
	for _, s := range []string{"", "x", "lon", "longer", "@long", "long ", " long", "long a", "long=", "Long", "long@res", "name", "res1"} {
		l = append(l, tok(api.Mark, s, 0))
	}
	l = append(l, tok(api.Lit, "", 0), tok(api.Class, "a", 0), tok(api.Bytes, "a", 0), api.Tok{})
	for _, x := range []api.Tok{tok(api.Name, "a", 0), tok(api.Sign, ";", 0), tok(api.Mark, "long", 0), tok(api.Lit, "a", 0)} {
		x.R = one
		l = append(l, x)
	}
	for _, kind := range []int{api.Class, api.Bytes} {
		l = append(l, api.Tok{Kind: kind, Text: "a", R: one}, api.Tok{Kind: kind, Text: " ", R: one})
		for _, n := range [][]int{
			{5, 3}, {3, 5, 6, 9}, {3, 5, 5, 9}, {3, 5, 4, 4}, {6, 9, 3, 4}, {3, 3, 3, 3}, {3, 5, 3, 5}, {-1, -1}, {-1, 5}, {-5, -1}, {5, -1}, {3, 3, -1, 5}, {-255, -255}, {-256, 0},
			{math.MinInt, math.MinInt}, {math.MinInt, math.MaxInt}, {math.MaxInt, math.MaxInt}, {math.MaxInt, math.MinInt}, {5, math.MinInt}, {5, math.MaxInt}, {top + 1, top + 1}, {5, top + 1},
			{1 << 32, 1 << 32}, {1<<32 + 97, 1<<32 + 97}, {97, 1<<32 + 98}, {55296, 55296}, {57343, 57343}, {55295, 55296}, {57343, 57344}, {55295, 57344}, {55296, 57343}, {0, top}, {5, 3, 7, 9},
		} {
			l = append(l, set(kind, 0, n...))
		}
	}
	l = append(l, set(api.Bytes, 0, 0, 256), set(api.Bytes, 0, 256, 256), set(api.Bytes, 0, 255, 256), set(api.Bytes, 0, 256, 257), set(api.Bytes, 0, 512, 512), set(api.Bytes, 0, 4096, 4096), set(api.Bytes, 0, 'a', 'a', 300, 300), set(api.Bytes, 0, 0, 255, 257, 257))
	for _, x := range l {
		if got := token.Text(x); got != "" || token.May(x) {
			t.Errorf("Text(%v) = %q, May is %t; want nothing", x, got, token.May(x))
		}
		textAsOwn(t, x)
	}
}

// P5.2: all lists of up to two ranges about the edges, as a class and as bytes.
func TestAllShortSets(t *testing.T) {
	ends := []int{-1, 0, 1, 2, 31, 32, 97, 254, 255, 256, 257, 55294, 55295, 55296, 57343, 57344, 57345, top - 1, top, top + 1}
	for _, a := range ends {
		for _, b := range ends {
			for _, c := range ends {
				for _, d := range ends {
					textAsOwn(t, set(api.Class, 0, a, b, c, d))
					textAsOwn(t, set(api.Bytes, 0, a, b, c, d))
				}
			}
		}
	}
}

// P5.2: a text has at most 3000 bytes.
func TestLongTexts(t *testing.T) {
	holds := func(x api.Tok, long int) {
		t.Helper()
		if got := token.Text(x); token.May(x) != (long <= 3000) || long <= 3000 && len(got) != long || long > 3000 && got != "" {
			t.Errorf("kind %d: %d bytes, May is %t; want %d", x.Kind, len(got), token.May(x), long)
		}
		textAsOwn(t, x)
	}
	for more := range 6 {
		holds(tok(api.Lit, strings.Repeat("x", 2995+more), 0), 2997+more)
		holds(tok(api.Lit, strings.Repeat("x", more)+strings.Repeat("\n", 749), 0), 2998+more)
		l := of('a', 'a', 'c', 'c', 'e', 'e', 'g', 'g', 'i', 'i')[:more]
		for i := range 428 {
			l = append(l, api.Range{Lo: 0x4000 + 2*i, Hi: 0x4000 + 2*i})
		}
		holds(api.Tok{Kind: api.Class, R: l}, 2+more+428*7)
	}
	for _, kind := range []int{api.Name, api.Sign, api.Mark, api.Lit, 9} {
		if x := tok(kind, strings.Repeat("a", 1<<22), 0); token.May(x) || token.Text(x) != "" {
			t.Errorf("kind %d, of many bytes, may be", kind)
		}
	}
	var many []api.Range
	for n := 0; n < 1<<20; n += 2 {
		many = append(many, api.Range{Lo: n, Hi: n})
	}
	for _, kind := range []int{api.Class, api.Bytes} {
		if x := (api.Tok{Kind: kind, R: many}); token.May(x) || token.Text(x) != "" {
			t.Errorf("kind %d, of many ranges, may be", kind)
		}
	}
}

// P5.2: Same holds Kind, Text and R against each other, and not At; also of tokens that may not be.
func TestSame(t *testing.T) {
	l := []api.Tok{
		{}, tok(api.Name, "a", 0), tok(api.Name, "b", 0), tok(api.Name, "ab", 0), tok(api.Lit, "a", 0), tok(api.Sign, "a", 0), tok(-1, "a", 0), tok(9, "", 0), tok(api.Mark, "long", 0),
		set(api.Class, 0), set(api.Class, 0, 1, 1), set(api.Class, 0, 1, 2), set(api.Class, 0, 2, 2), set(api.Class, 0, 1, 1, 3, 3), set(api.Class, 0, 3, 3, 1, 1), set(api.Class, 0, 2, 1),
		set(api.Bytes, 0), set(api.Bytes, 0, 1, 1), {Kind: api.Class, Text: "a", R: of(1, 1)}, {Kind: api.Name, Text: "a", R: of(1, 1)}, set(api.Class, 0, -5, math.MaxInt),
	}
	for i, a := range l {
		for j, b := range l {
			a.At, b.At = i, 7*j-20
			b.R = slices.Clone(b.R)
			if got := token.Same(a, b); got != (i == j) {
				t.Errorf("Same(%v, %v) = %t", a, b, got)
			}
		}
	}
	if !token.Same(api.Tok{Kind: api.Class}, api.Tok{Kind: api.Class, R: []api.Range{}}) {
		t.Error("no ranges are not the same as none")
	}
}

// P5.3: a token's text is read as the token, alone and among others; and it is the only text that Text tells of it.
func TestTextIsRead(t *testing.T) {
	back := func(x api.Tok) {
		t.Helper()
		s := token.Text(x)
		x.At = 0
		reads(t, s, x)
		x.At = 3
		reads(t, "\n; "+s+"\t;", tok(api.Sign, ";", 1), x, tok(api.Sign, ";", 4+len(s)))
		if l, _, _ := token.All(s); len(l) != 1 || token.Text(l[0]) != s || !token.Same(l[0], x) {
			t.Errorf("%q is read as %v", s, l)
		}
	}
	for _, c := range written {
		back(c.t)
	}
	source := rand.New(rand.NewSource(7))
	for round := range 3000 {
		bytes := make([]byte, 1+source.Intn(40))
		for i := range bytes {
			bytes[i] = byte(source.Intn(256))
		}
		back(tok(api.Lit, string(bytes), round))
		for kind, wide := range map[int]int{api.Class: 1 + (top-9)>>(round%18), api.Bytes: 250} {
			ends := make([]int, 2*source.Intn(20))
			for i := range ends {
				ends[i] = source.Intn(wide)
			}
			slices.Sort(ends)
			var l []api.Range
			for i := 0; i < len(ends); i += 2 {
				r := api.Range{Lo: ends[i], Hi: ends[i+1]}
				if last := len(l) - 1; (last < 0 || l[last].Hi+1 < r.Lo) && (kind == api.Bytes || !gapped([]api.Range{r})) {
					l = append(l, r)
				}
			}
			back(api.Tok{Kind: kind, R: l, At: round})
		}
	}
}

// P5.3: what is read is read again from its text, also where it was written otherwise.
func TestReadIsRead(t *testing.T) {
	for s, want := range map[string]string{
		`"\x61\x20"`: `"a "`, `[cab]`: "[a-c]", `[\u000061;-c]`: "[a-c]", `[^]`: `[\u0;-\ud7ff;\ue000;-\u10ffff;]`, `[^\u0;-\u10ffff;]`: "[]", "[\u00e4]": `[\ue4;]`, "<4142>": "<41-42>",
		"<00-ff41>": "<00-ff>", `[^a-c]`: "[\\u0;-`d-\\ud7ff;\\ue000;-\\u10ffff;]", "[aa-a]": "[a]", "[\x7f]": `[\u7f;]`, "<4141-41>": "<41>",
	} {
		l, _, e := token.All(s)
		if e != api.OK || len(l) != 1 {
			t.Errorf("All(%q) = %v, %d", s, l, e)
			continue
		}
		if got := token.Text(l[0]); got != want {
			t.Errorf("Text of %q = %q; want %q", s, got, want)
		}
		reads(t, want, l[0])
	}
	// A class of scalars that are written by themselves may be longer by digits than a text may be.
	var long strings.Builder
	for r := rune(0x4e00); long.Len() < 2990; r += 2 {
		long.WriteRune(r)
	}
	l, _, e := token.All("[" + long.String() + "]")
	if e != api.OK || len(l) != 1 || token.May(l[0]) || token.Text(l[0]) != "" {
		t.Errorf("a class that is too long by digits: %d tokens, %d", len(l), e)
	}
}

// R3: what is answered is the caller's own, and what is handed in stays as it was.
func TestOwn(t *testing.T) {
	const s = "[a-ce]<00-0f41>[a-ce][^]"
	one, _, _ := token.All(s)
	two, _, _ := token.All(s)
	want, _, _ := ownAll(s)
	for i := range one {
		for j := range one[i].R {
			one[i].R[j] = api.Range{Lo: -9, Hi: 9}
		}
		_ = append(one[i].R, of(7, 8, 9, 10)...)
		for j := i + 1; j < len(one); j++ {
			if !slices.Equal(one[j].R, want[j].R) {
				t.Fatalf("a change of token %d changed token %d to %v", i, j, one[j].R)
			}
		}
		one[i].Text, one[i].Kind = "x", -1
	}
	three, _, _ := token.All(s)
	if !slices.EqualFunc(two, want, sameTok) || !slices.EqualFunc(three, want, sameTok) {
		t.Errorf("%v, %v behind a change; want %v", two, three, want)
	}
	for _, n := range [][]int{{'a', 'c', 'e', 'e'}, {9, 3, 1, 1, -5, 5}} {
		for _, kind := range []int{api.Class, api.Bytes, api.Name, 9} {
			l := append(of(n...), of(70, 71)...)
			x := api.Tok{Kind: kind, R: l[:len(l)-1]}
			token.May(x)
			token.Text(x)
			token.Same(x, x)
			if !slices.Equal(l, append(of(n...), of(70, 71)...)) {
				t.Errorf("%v became %v", n, l)
			}
		}
	}
}

// P1, R1, R5: any bytes, and any tokens, asked twice.
func TestWild(t *testing.T) {
	source := rand.New(rand.NewSource(3))
	const signs = "ab1_@=\"\\x6fu;[]^-<>0 \n\x00\x7f\xc3\xa4\xff"
	numbers := []int{math.MinInt, -1, 0, 1, 31, 97, 255, 256, 55296, top, top + 1, math.MaxInt}
	for range 20000 {
		bytes := make([]byte, source.Intn(30))
		for i := range bytes {
			bytes[i] = signs[source.Intn(len(signs))]
		}
		asOwn(t, string(bytes))
		asOwn(t, "["+string(bytes)+"]")
		asOwn(t, "\""+string(bytes)+"\"")
		x := api.Tok{Kind: source.Intn(9) - 2, Text: string(bytes[:source.Intn(len(bytes)+1)]), At: numbers[source.Intn(len(numbers))]}
		for range source.Intn(3) {
			x.R = append(x.R, api.Range{Lo: numbers[source.Intn(len(numbers))], Hi: numbers[source.Intn(len(numbers))]})
		}
		textAsOwn(t, x)
		textAsOwn(t, x)
	}
}
