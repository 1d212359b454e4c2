package seqs_test

import (
	"math"
	"math/rand"
	"slices"
	"testing"

	"exegete/api"
	"exegete/ranges"
	"exegete/seqs"
	"exegete/utf"
)

// The calls have the signatures of the chapter.
var (
	_ func([]api.Range) [][]api.Range             = seqs.Of
	_ func([][]api.Range, []byte, int) int        = seqs.Match
	_ func(l [][]api.Range, b []byte, at int) int = seqs.Part
)

const (
	top   = 1114111
	least = math.MinInt
	most  = math.MaxInt
)

// of is ranges, from every first number to the one behind it.
func of(n ...int) []api.Range {
	var l []api.Range
	for i := 0; i+1 < len(n); i += 2 {
		l = append(l, api.Range{Lo: n[i], Hi: n[i+1]})
	}
	return l
}

func sequences(s ...[]api.Range) [][]api.Range {
	return s
}

func sameSequences(a, b [][]api.Range) bool {
	return slices.EqualFunc(a, b, slices.Equal[[]api.Range])
}

func isOf(l []api.Range, n int) bool {
	for _, r := range l {
		if r.Lo <= n && n <= r.Hi {
			return true
		}
	}
	return false
}

// all is all bytes that may follow.
var all = api.Range{Lo: 128, Hi: 191}

// told holds what Of answers, written out by hand.
var told = []struct {
	l    []api.Range
	want [][]api.Range
}{
	// the example
	{of(128, 2047), sequences(of(194, 223, 128, 191))},
	// none
	{nil, nil},
	{[]api.Range{}, nil},
	{of(55296, 57343), nil},
	{of(55296, 55296, 57343, 57343), nil},
	// the first and the last scalars of one, two, three and four bytes
	{of(0, 0), sequences(of(0, 0))},
	{of(127, 127), sequences(of(127, 127))},
	{of(128, 128), sequences(of(194, 194, 128, 128))},
	{of(2047, 2047), sequences(of(223, 223, 191, 191))},
	{of(2048, 2048), sequences(of(224, 224, 160, 160, 128, 128))},
	{of(65535, 65535), sequences(of(239, 239, 191, 191, 191, 191))},
	{of(65536, 65536), sequences(of(240, 240, 144, 144, 128, 128, 128, 128))},
	{of(top, top), sequences(of(244, 244, 143, 143, 191, 191, 191, 191))},
	{of(127, 128), sequences(of(127, 127), of(194, 194, 128, 128))},
	{of(2047, 2048), sequences(of(223, 223, 191, 191), of(224, 224, 160, 160, 128, 128))},
	{of(65535, 65536), sequences(of(239, 239, 191, 191, 191, 191), of(240, 240, 144, 144, 128, 128, 128, 128))},
	// about the numbers that are no scalars
	{of(55295, 55295), sequences(of(237, 237, 159, 159, 191, 191))},
	{of(57344, 57344), sequences(of(238, 238, 128, 128, 128, 128))},
	{of(55295, 55296), sequences(of(237, 237, 159, 159, 191, 191))},
	{of(57343, 57344), sequences(of(238, 238, 128, 128, 128, 128))},
	{of(55295, 57344), sequences(of(237, 237, 159, 159, 191, 191), of(238, 238, 128, 128, 128, 128))},
	{of(55294, 55400, 57300, 57345), sequences(of(237, 237, 159, 159, 190, 191), of(238, 238, 128, 128, 128, 129))},
	// multiples of 64
	{of(191, 193), sequences(of(194, 194, 191, 191), of(195, 195, 128, 129))},
	{of(128, 191), sequences(of(194, 194, 128, 191))},
	{of(129, 190), sequences(of(194, 194, 129, 190))},
	{of(128, 260), sequences(of(194, 195, 128, 191), of(196, 196, 128, 132))},
	{of(130, 319), sequences(of(194, 194, 130, 191), of(195, 196, 128, 191))},
	{of(191, 320), sequences(of(194, 194, 191, 191), of(195, 196, 128, 191), of(197, 197, 128, 128))},
	{of(191, 192), sequences(of(194, 194, 191, 191), of(195, 195, 128, 128))},
	{of(192, 319), sequences(of(195, 196, 128, 191))},
	// multiples of 4096, those of 64 at the ends
	{of(4096, 12287), sequences(of(225, 226, 128, 191, 128, 191))},
	{of(4095, 8192), sequences(of(224, 224, 191, 191, 191, 191), of(225, 225, 128, 191, 128, 191), of(226, 226, 128, 128, 128, 128))},
	{of(4096, 8192), sequences(of(225, 225, 128, 191, 128, 191), of(226, 226, 128, 128, 128, 128))},
	{of(4096, 12288), sequences(of(225, 226, 128, 191, 128, 191), of(227, 227, 128, 128, 128, 128))},
	{of(4097, 12287), sequences(
		of(225, 225, 128, 128, 129, 191), of(225, 225, 129, 191, 128, 191),
		of(226, 226, 128, 191, 128, 191))},
	{of(4159, 12480), sequences(
		of(225, 225, 128, 128, 191, 191), of(225, 225, 129, 191, 128, 191),
		of(226, 226, 128, 191, 128, 191),
		of(227, 227, 128, 130, 128, 191), of(227, 227, 131, 131, 128, 128))},
	{of(2048, 65535), sequences(
		of(224, 224, 160, 191, 128, 191), of(225, 236, 128, 191, 128, 191),
		of(237, 237, 128, 159, 128, 191), of(238, 239, 128, 191, 128, 191))},
	// multiples of 262144
	{of(262143, 262144), sequences(
		of(240, 240, 191, 191, 191, 191, 191, 191), of(241, 241, 128, 128, 128, 128, 128, 128))},
	{of(262144, 786431), sequences(of(241, 242, 128, 191, 128, 191, 128, 191))},
	{of(262144, 786432), sequences(
		of(241, 242, 128, 191, 128, 191, 128, 191), of(243, 243, 128, 128, 128, 128, 128, 128))},
	{of(262143, 786431), sequences(
		of(240, 240, 191, 191, 191, 191, 191, 191), of(241, 242, 128, 191, 128, 191, 128, 191))},
	{of(262145, 528386), sequences(
		of(241, 241, 128, 128, 128, 128, 129, 191), of(241, 241, 128, 128, 129, 191, 128, 191), of(241, 241, 129, 191, 128, 191, 128, 191),
		of(242, 242, 128, 128, 128, 191, 128, 191), of(242, 242, 129, 129, 128, 128, 128, 130))},
	{of(65536, top), sequences(
		of(240, 240, 144, 191, 128, 191, 128, 191), of(241, 243, 128, 191, 128, 191, 128, 191),
		of(244, 244, 128, 143, 128, 191, 128, 191))},
	// all scalars, also where more is asked for
	{of(0, top), everything()},
	{of(-7, top+7), everything()},
	{of(least, most), everything()},
	// several ranges; such as are not in order; such as are none
	{of(97, 99, 228, 228), sequences(of(97, 99), of(195, 195, 164, 164))},
	{of(228, 228, 97, 99), sequences(of(97, 99), of(195, 195, 164, 164))},
	{of(100, 102, 97, 99), sequences(of(97, 102))},
	{of(97, 101, 99, 102, 98, 98), sequences(of(97, 102))},
	{of(192, 255, 128, 191), sequences(of(194, 195, 128, 191))},
	{of(99, 97), nil},
	{of(most, least), nil},
	{of(-9, -1), nil},
	{of(least, -1, top+1, most), nil},
	{of(top+1, top+1), nil},
	{of(-9, 0), sequences(of(0, 0))},
	{of(top, most), sequences(of(244, 244, 143, 143, 191, 191, 191, 191))},
}

func everything() [][]api.Range {
	return [][]api.Range{
		of(0, 127),
		{{Lo: 194, Hi: 223}, all},
		{{Lo: 224, Hi: 224}, {Lo: 160, Hi: 191}, all},
		{{Lo: 225, Hi: 236}, all, all},
		{{Lo: 237, Hi: 237}, {Lo: 128, Hi: 159}, all},
		{{Lo: 238, Hi: 239}, all, all},
		{{Lo: 240, Hi: 240}, {Lo: 144, Hi: 191}, all, all},
		{{Lo: 241, Hi: 243}, all, all, all},
		{{Lo: 244, Hi: 244}, {Lo: 128, Hi: 143}, all, all},
	}
}

// P3.1: Of, as it is written out.
func TestOf(t *testing.T) {
	for _, x := range told {
		if got := seqs.Of(x.l); !sameSequences(got, x.want) {
			t.Errorf("Of(%v) = %v; want %v", x.l, got, x.want)
		}
	}
}

// edges are numbers about all at which something begins.
func edges() []int {
	var l []int
	for _, n := range []int{
		0, 64, 127, 128, 192, 256, 320, 2047, 2048, 4096, 4160, 8192, 53248, 55296, 57344, 61440,
		65535, 65536, 69632, 262144, 262208, 266240, 524288, 786432, 1048576, top,
	} {
		l = append(l, n-1, n, n+1)
	}
	l = append(l, 100, 1000, 10000, 100000, 1000000)
	slices.Sort(l)
	return slices.Compact(l)
}

// multiples is a range, split at bits, told multiple by multiple: such as the range has whole go together.
func multiples(r api.Range, bits int) []api.Range {
	var out []api.Range
	each, joins := 1<<bits, false
	for m := r.Lo / each; m <= r.Hi/each; m++ {
		p := api.Range{Lo: max(r.Lo, m*each), Hi: min(r.Hi, m*each+each-1)}
		whole := p.Hi-p.Lo == each-1
		if whole && joins {
			out[len(out)-1].Hi = p.Hi
		} else {
			out = append(out, p)
		}
		joins = whole
	}
	return out
}

// ofOne is what Of tells of one range, by the chapter's words.
func ofOne(r api.Range) [][]api.Range {
	var out [][]api.Range
	for i, w := range []api.Range{{Lo: 0, Hi: 127}, {Lo: 128, Hi: 2047}, {Lo: 2048, Hi: 55295}, {Lo: 57344, Hi: 65535}, {Lo: 65536, Hi: top}} {
		left := []api.Range{{Lo: max(r.Lo, w.Lo), Hi: min(r.Hi, w.Hi)}}
		if left[0].Lo > left[0].Hi {
			continue
		}
		for _, bits := range [][]int{{}, {6}, {12, 6}, {12, 6}, {18, 12, 6}}[i] {
			var next []api.Range
			for _, p := range left {
				next = append(next, multiples(p, bits)...)
			}
			left = next
		}
		for _, p := range left {
			lo, hi := string(rune(p.Lo)), string(rune(p.Hi))
			var s []api.Range
			for k := range len(lo) {
				s = append(s, api.Range{Lo: int(lo[k]), Hi: int(hi[k])})
			}
			out = append(out, s)
		}
	}
	return out
}

// P3.1: Of one range, from each edge to each.
func TestOfEdges(t *testing.T) {
	for _, lo := range edges() {
		for _, hi := range edges() {
			r := api.Range{Lo: lo, Hi: hi}
			if got, want := seqs.Of([]api.Range{r}), ofOne(r); !sameSequences(got, want) {
				t.Fatalf("Of(%v) = %v; want %v", r, got, want)
			}
		}
	}
}

// P3.1: Of several ranges is that of each that Norm tells, one behind the other.
func TestOfSeveral(t *testing.T) {
	chance := rand.New(rand.NewSource(3))
	e := edges()
	for range 3000 {
		var l []api.Range
		for range chance.Intn(6) {
			l = append(l, api.Range{Lo: e[chance.Intn(len(e))], Hi: e[chance.Intn(len(e))]})
		}
		var want [][]api.Range
		for _, r := range ranges.Norm(l) {
			want = append(want, ofOne(r)...)
		}
		if got := seqs.Of(l); !sameSequences(got, want) {
			t.Fatalf("Of(%v) = %v; want %v", l, got, want)
		}
	}
}

// bytesAreOf is the chapter's word.
func bytesAreOf(s []api.Range, b string) bool {
	if len(s) != len(b) {
		return false
	}
	for i := range s {
		if int(b[i]) < s[i].Lo || int(b[i]) > s[i].Hi {
			return false
		}
	}
	return true
}

// ofMany is how many sequences bytes are of.
func ofMany(l [][]api.Range, b string) int {
	many := 0
	for _, s := range l {
		if bytesAreOf(s, b) {
			many++
		}
	}
	return many
}

// bytesOf is how many bytes all sequences tell together.
func bytesOf(l [][]api.Range) int {
	sum := 0
	for _, s := range l {
		product := 1
		for _, r := range s {
			product *= r.Hi - r.Lo + 1
		}
		sum += product
	}
	return sum
}

// P3.1: the bytes of each scalar of the set are of one sequence alone, those of all others of none, and no other bytes are of any.
func TestOfScalars(t *testing.T) {
	sets := [][]api.Range{
		nil, of(0, top), of(55000, 57500), of(5, 5, 127, 128, 191, 193, 4095, 8192, 70000, 70001), of(100, 1000000), of(262145, 528450),
		of(2000, 2100, 65530, 65540, 262140, 262150, 1114000, top), of(4097, 12287, 12289, 12300),
	}
	for _, set := range sets {
		l := seqs.Of(set)
		scalars := 0
		for n := 0; n <= top; n++ {
			if n >= 55296 && n <= 57343 {
				continue
			}
			want := 0
			if isOf(set, n) {
				want = 1
				scalars++
			}
			if got := ofMany(l, string(rune(n))); got != want {
				t.Fatalf("Of(%v): the bytes of %d are of %d sequences; want %d", set, n, got, want)
			}
		}
		if got := bytesOf(l); got != scalars {
			t.Fatalf("Of(%v) tells the bytes of %d; want %d", set, got, scalars)
		}
	}
}

// matched holds what Match and Part answer, written out by hand.
var matched = []struct {
	l           [][]api.Range
	b           string
	at          int
	match, part int
}{
	// ordinary ones
	{sequences(of(97, 99)), "b", 0, 1, 1},
	{sequences(of(97, 99)), "a", 0, 1, 1},
	{sequences(of(97, 99)), "c", 0, 1, 1},
	{sequences(of(97, 99)), "d", 0, 0, 0},
	{sequences(of(97, 99)), "`", 0, 0, 0},
	{sequences(of(195, 195, 164, 164)), "\xc3\xa4", 0, 2, 2},
	{sequences(of(195, 195, 164, 164)), "\xc3\xa5", 0, 0, 1},
	{sequences(of(195, 195, 164, 164)), "\xc3\xa3", 0, 0, 1},
	{sequences(of(195, 195, 164, 164)), "\xc2\xa4", 0, 0, 0},
	{sequences(of(195, 195, 164, 164)), "\xc3", 0, 0, 1},
	{sequences(of(195, 195, 164, 164)), "\xc3\xa4\xa4", 0, 2, 2},
	{sequences(of(195, 195, 164, 164)), "\xc3\xa4", 1, 0, 0},
	{sequences(of(195, 195, 164, 164)), "z\xc3\xa4", 1, 2, 2},
	// bytes that break off
	{sequences(of(240, 240, 144, 191, 128, 191, 128, 191)), "\xf0\x90\x80\x80", 0, 4, 4},
	{sequences(of(240, 240, 144, 191, 128, 191, 128, 191)), "\xf0\x90\x80", 0, 0, 3},
	{sequences(of(240, 240, 144, 191, 128, 191, 128, 191)), "\xf0\x90", 0, 0, 2},
	{sequences(of(240, 240, 144, 191, 128, 191, 128, 191)), "\xf0", 0, 0, 1},
	{sequences(of(240, 240, 144, 191, 128, 191, 128, 191)), "\xf0\x8f\x80\x80", 0, 0, 1},
	{sequences(of(240, 240, 144, 191, 128, 191, 128, 191)), "\xf0\x90z\x80", 0, 0, 2},
	{sequences(of(240, 240, 144, 191, 128, 191, 128, 191)), "\xf0\x90\x80z", 0, 0, 3},
	// places
	{sequences(of(97, 97)), "aa", 0, 1, 1},
	{sequences(of(97, 97)), "aa", 1, 1, 1},
	{sequences(of(97, 97)), "aa", 2, 0, 0},
	{sequences(of(97, 97)), "aa", 3, 0, 0},
	{sequences(of(97, 97)), "aa", -1, 0, 0},
	{sequences(of(97, 97)), "aa", least, 0, 0},
	{sequences(of(97, 97)), "aa", most, 0, 0},
	{sequences(of(97, 97, 97, 97)), "aa", most, 0, 0},
	{sequences(of(97, 97)), "", 0, 0, 0},
	{sequences(of(97, 97)), "", 1, 0, 0},
	{sequences(of(97, 97)), "", -1, 0, 0},
	// the first one that matches, and the one that goes on for the most
	{sequences(of(97, 97), of(97, 97, 98, 98)), "ab", 0, 1, 2},
	{sequences(of(97, 97, 98, 98), of(97, 97)), "ab", 0, 2, 2},
	{sequences(of(97, 97, 98, 98), of(97, 97)), "ac", 0, 1, 1},
	{sequences(of(97, 97, 98, 98), of(97, 97)), "a", 0, 1, 1},
	{sequences(of(97, 97), of(97, 97, 98, 98, 100, 100)), "abc", 0, 1, 2},
	{sequences(of(97, 97, 98, 98, 100, 100), of(120, 120)), "abc", 0, 0, 2},
	{sequences(of(120, 120), of(97, 97, 98, 98, 100, 100), of(97, 97, 120, 120)), "abc", 0, 0, 2},
	{sequences(of(97, 97, 120, 120), of(97, 97, 98, 98), of(97, 98)), "abc", 0, 2, 2},
	// sequences that Of never tells: none
	{nil, "a", 0, 0, 0},
	{sequences(), "a", 0, 0, 0},
	{nil, "", 0, 0, 0},
	{nil, "", most, 0, 0},
	// empty ones: no bytes at all are of one, wherever one is, and these are 0
	{sequences(nil), "a", 0, 0, 0},
	{sequences(of()), "", 0, 0, 0},
	{sequences(nil, of(97, 97)), "a", 0, 0, 1},
	{sequences(of(97, 97), nil), "a", 0, 1, 1},
	{sequences(of(98, 98), nil, of(97, 97)), "a", 0, 0, 1},
	{sequences(nil, nil), "a", 5, 0, 0},
	// longer ones
	{sequences(of(97, 97, 97, 97, 97, 97, 97, 97, 97, 97)), "aaaaa", 0, 5, 5},
	{sequences(of(97, 97, 97, 97, 97, 97, 97, 97, 97, 97)), "aaaaaa", 1, 5, 5},
	{sequences(of(97, 97, 97, 97, 97, 97, 97, 97, 97, 97)), "aaaaaa", 2, 0, 4},
	{sequences(of(97, 97, 97, 97, 97, 97, 97, 97, 97, 97)), "aaaab", 0, 0, 4},
	// ranges of no bytes, or of more
	{sequences(of(98, 97)), "a", 0, 0, 0},
	{sequences(of(98, 97)), "b", 0, 0, 0},
	{sequences(of(97, 97, 256, 300)), "aa", 0, 0, 1},
	{sequences(of(97, 97, -3, -1)), "aa", 0, 0, 1},
	{sequences(of(least, most)), "\x00", 0, 1, 1},
	{sequences(of(least, most)), "\xff", 0, 1, 1},
	{sequences(of(most, least)), "a", 0, 0, 0},
	{sequences(of(least, 97, 97, most)), "aa", 0, 2, 2},
	{sequences(of(least, 97, 97, most)), "ba", 0, 0, 0},
	{sequences(of(least, 97, 98, most)), "aa", 0, 0, 1},
}

// P3.2: Match and Part, as they are written out.
func TestMatchAndPart(t *testing.T) {
	for _, x := range matched {
		if got := seqs.Match(x.l, []byte(x.b), x.at); got != x.match {
			t.Errorf("Match(%v, %q, %d) = %d; want %d", x.l, x.b, x.at, got, x.match)
		}
		if got := seqs.Part(x.l, []byte(x.b), x.at); got != x.part {
			t.Errorf("Part(%v, %q, %d) = %d; want %d", x.l, x.b, x.at, got, x.part)
		}
	}
}

// matchByWords is P3.2's Match, sequence by sequence.
func matchByWords(l [][]api.Range, b string, at int) int {
	if at < 0 || at > len(b) {
		return 0
	}
	for _, s := range l {
		if len(s) <= len(b)-at && bytesAreOf(s, b[at:at+len(s)]) {
			return len(s)
		}
	}
	return 0
}

// partByWords is P3.2's Part: each number is tried.
func partByWords(l [][]api.Range, b string, at int) int {
	if at < 0 || at > len(b) {
		return 0
	}
	greatest := 0
	for k := 1; k <= len(b)-at; k++ {
		for _, s := range l {
			if k <= len(s) && bytesAreOf(s[:k], b[at:at+k]) {
				greatest = k
			}
		}
	}
	return greatest
}

// P3.2: Match and Part of sequences of a few bytes, with Lo above Hi too, against the chapter's words.
func TestMatchAndPartByWords(t *testing.T) {
	chance := rand.New(rand.NewSource(5))
	for range 40000 {
		l := make([][]api.Range, chance.Intn(5))
		for i := range l {
			for range chance.Intn(6) {
				lo := 97 + chance.Intn(3)
				l[i] = append(l[i], api.Range{Lo: lo, Hi: lo - 1 + chance.Intn(4)})
			}
		}
		b := make([]byte, chance.Intn(7))
		for i := range b {
			b[i] = byte(97 + chance.Intn(3))
		}
		for at := -2; at <= len(b)+2; at++ {
			if got, want := seqs.Match(l, b, at), matchByWords(l, string(b), at); got != want {
				t.Fatalf("Match(%v, %q, %d) = %d; want %d", l, b, at, got, want)
			}
			if got, want := seqs.Part(l, b, at), partByWords(l, string(b), at); got != want {
				t.Fatalf("Part(%v, %q, %d) = %d; want %d", l, b, at, got, want)
			}
		}
	}
}

// seedSets are sets whose sequences are held against utf.
var seedSets = [][]api.Range{
	nil, of(0, top), of(97, 99), of(228, 228), of(128, 2047), of(100, 5000), of(55000, 58000), of(2048, 2111, 4095, 4097, 65535, 65536),
	of(262143, 262144, 1048575, 1048576, 1114111, 1114111), of(0, 55295), of(57344, top), of(55296, 57343), of(9, 3, -4, 70, 60, 90),
	of(131, 133, 8190, 8200, 65600, 300000),
}

// heldAgainstUtf fails the test if from some place on the sequences match elsewhere than where utf tells a scalar of the set.
func heldAgainstUtf(t *testing.T, set []api.Range, l [][]api.Range, b []byte) {
	t.Helper()
	for at := -1; at <= len(b)+1; at++ {
		r, many := utf.Next(b, at)
		want := 0
		if r >= 0 && isOf(set, r) {
			want = many
		}
		if got := seqs.Match(l, b, at); got != want {
			t.Fatalf("Match(Of(%v), %v, %d) = %d; want %d", set, b, at, got, want)
		}
		if part := seqs.Part(l, b, at); part < want || want > 0 && part != want {
			t.Fatalf("Part(Of(%v), %v, %d) = %d; Match tells %d", set, b, at, part, want)
		}
	}
}

// P3.3: of all bytes of one and two, and of four from among those at which something begins or is over.
func TestSeed(t *testing.T) {
	few := []byte{
		0, 97, 127, 128, 129, 143, 144, 159, 160, 164, 191, 192, 193, 194, 195, 223,
		224, 225, 236, 237, 238, 239, 240, 241, 243, 244, 245, 247, 248, 255,
	}
	for _, set := range seedSets {
		l := seqs.Of(set)
		for a := range 256 {
			heldAgainstUtf(t, set, l, []byte{byte(a)})
			for b := range 256 {
				heldAgainstUtf(t, set, l, []byte{byte(a), byte(b)})
			}
		}
		for _, a := range few {
			for _, b := range few {
				for _, c := range few {
					heldAgainstUtf(t, set, l, []byte{a, b, c})
					heldAgainstUtf(t, set, l, []byte{a, b, c, 128})
					heldAgainstUtf(t, set, l, []byte{a, b, c, 191, 97})
					heldAgainstUtf(t, set, l, []byte{a, b, c, 192})
				}
			}
		}
	}
}

// P3.3: of the bytes of each scalar.
func TestSeedOfScalars(t *testing.T) {
	for _, set := range seedSets {
		l := seqs.Of(set)
		for n := 0; n <= top; n++ {
			b, is := utf.Put(n)
			want := 0
			if is && isOf(set, n) {
				want = len(b)
			}
			if got := seqs.Match(l, append(b, 128), 0); got != want {
				t.Fatalf("Match(Of(%v), the bytes of %d, 0) = %d; want %d", set, n, got, want)
			}
		}
	}
}

// R3: what is handed in stays as it was, also the memory behind it; what is answered is the caller's own, each list by itself.
func TestOwnMemory(t *testing.T) {
	back := of(70000, 600000, 97, 99, 5, 5, 6, 6)
	kept := slices.Clone(back)
	first := seqs.Of(back[:2])
	want := seqs.Of(of(97, 99, 70000, 600000))
	if !slices.Equal(back, kept) || !sameSequences(first, want) {
		t.Fatal("Of changed what it was given")
	}
	for i := range first {
		for k := range first[i] {
			first[i][k] = api.Range{Lo: -1, Hi: -1}
		}
		_ = append(first[i], api.Range{Lo: -2, Hi: -2})
		if i+1 < len(first) && !sameSequences(first[i+1:], want[i+1:]) {
			t.Fatal("two lists of an answer share memory")
		}
	}
	if !slices.Equal(back, kept) || !sameSequences(seqs.Of(back[:2]), want) {
		t.Fatal("an answer is not the caller's own")
	}
	l, b := sequences(of(97, 97, 98, 98, 7, 7)[:2], of(97, 98)), []byte("abab")
	lKept, bKept := sequences(slices.Clone(l[0]), slices.Clone(l[1])), slices.Clone(b)
	seqs.Match(l, b[:3], 1)
	seqs.Part(l, b[:3], 1)
	if !sameSequences(l, lKept) || !slices.Equal(b, bKept) {
		t.Fatal("Match or Part changed what it was given")
	}
}

// P1: long lists, and long bytes, end soon.
func TestLong(t *testing.T) {
	var l []api.Range
	for n := top; n >= 0; n -= 7 {
		l = append(l, api.Range{Lo: n, Hi: n + 3})
	}
	s := seqs.Of(l)
	if got := bytesOf(s); got != ranges.Size(ranges.Less(l, of(55296, 57343))) {
		t.Fatalf("Of a long list tells the bytes of %d", got)
	}
	if got := seqs.Match(s, []byte("\xf4\x8f\xbf\xbf"), 0); got != 4 {
		t.Fatalf("Match of a long list = %d; want 4", got)
	}
	long := make([]api.Range, 1<<20)
	b := make([]byte, 1<<20)
	if seqs.Match(sequences(long), b, 0) != 1<<20 || seqs.Match(sequences(long), b, 1) != 0 || seqs.Part(sequences(long), b, 1) != 1<<20-1 {
		t.Fatal("Match or Part of a long sequence")
	}
}
