package utf_test

import (
	"bytes"
	"math"
	"testing"
	"unicode/utf8"

	"exegete/api"
	"exegete/utf"
)

// The calls have the signatures of the chapter.
var (
	_ func(int) bool               = utf.May
	_ func(int) ([]byte, bool)     = utf.Put
	_ func([]byte, int) (int, int) = utf.Next
	_ func([]byte) int             = utf.Units
)

// edges are the scalars at the borders that the chapter names, with their bytes written out.
var edges = []struct {
	r int
	b []byte
}{
	{0, []byte{0}},
	{97, []byte{97}},
	{127, []byte{127}},
	{128, []byte{194, 128}},
	{228, []byte{195, 164}},
	{2047, []byte{223, 191}},
	{2048, []byte{224, 160, 128}},
	{4095, []byte{224, 191, 191}},
	{4096, []byte{225, 128, 128}},
	{8364, []byte{226, 130, 172}},
	{55295, []byte{237, 159, 191}},
	{57344, []byte{238, 128, 128}},
	{65533, []byte{239, 191, 189}},
	{65535, []byte{239, 191, 191}},
	{65536, []byte{240, 144, 128, 128}},
	{128512, []byte{240, 159, 152, 128}},
	{262143, []byte{240, 191, 191, 191}},
	{262144, []byte{241, 128, 128, 128}},
	{1114111, []byte{244, 143, 191, 191}},
}

// noScalars are numbers that are none.
var noScalars = []int{math.MinInt, math.MinInt + 1, math.MinInt32, -1114111, -228, -128, -2, -1, 55296, 55297, 56319, 56320, 57342, 57343,
	1114112, 1114113, 2097151, 2097152, math.MaxInt32, math.MaxUint32, 1<<32 + 97, math.MaxInt - 1, math.MaxInt}

// own is a scalar's bytes, by the chapter's words.
func own(r int) []byte {
	switch {
	case r < 128:
		return []byte{byte(r)}
	case r < 2048:
		return []byte{byte(192 + r/64), byte(128 + r%64)}
	case r < 65536:
		return []byte{byte(224 + r/4096), byte(128 + r%4096/64), byte(128 + r%64)}
	}
	return []byte{byte(240 + r/262144), byte(128 + r%262144/4096), byte(128 + r%4096/64), byte(128 + r%64)}
}

// each goes through all scalars.
func each(yield func(int) bool) {
	for r := 0; r <= api.MaxScalar; r++ {
		if r == 55296 {
			r = 57344
		}
		if !yield(r) {
			return
		}
	}
}

// next fails the test if Next tells anything but r and n.
func next(t *testing.T, b []byte, at, r, n int) {
	if gr, gn := utf.Next(b, at); gr != r || gn != n {
		t.Helper()
		t.Fatalf("Next(%v, %d) = %d, %d; want %d, %d", b, at, gr, gn, r, n)
	}
}

// P1.1: May.
func TestMay(t *testing.T) {
	for _, e := range edges {
		if !utf.May(e.r) {
			t.Errorf("May(%d) = false", e.r)
		}
	}
	for _, r := range noScalars {
		if utf.May(r) {
			t.Errorf("May(%d) = true", r)
		}
	}
	scalars := 0
	for r := -70000; r <= api.MaxScalar+70000; r++ {
		if utf.May(r) {
			scalars++
		}
	}
	if want := 1114112 - 2048; scalars != want {
		t.Errorf("%d scalars; want %d", scalars, want)
	}
}

// P1.1: Put at the edges, and of what is no scalar.
func TestPutEdges(t *testing.T) {
	for _, e := range edges {
		if b, is := utf.Put(e.r); !is || !bytes.Equal(b, e.b) {
			t.Errorf("Put(%d) = %v, %t; want %v, true", e.r, b, is, e.b)
		}
	}
	for _, r := range noScalars {
		if b, is := utf.Put(r); is || len(b) != 0 {
			t.Errorf("Put(%d) = %v, %t; want nothing, false", r, b, is)
		}
	}
	for r := 55296; r <= 57343; r++ {
		if b, is := utf.Put(r); is || len(b) != 0 || utf.May(r) {
			t.Errorf("Put(%d) = %v, %t; want nothing, false", r, b, is)
		}
	}
}

// P1.1: Put of every scalar.
func TestPutAll(t *testing.T) {
	for r := range each {
		if b, is := utf.Put(r); !is || !bytes.Equal(b, own(r)) {
			t.Fatalf("Put(%d) = %v, %t; want %v, true", r, b, is, own(r))
		}
	}
}

// P1.1 with R3: what is put is the caller's own.
func TestPutIsNew(t *testing.T) {
	for _, e := range edges {
		a, _ := utf.Put(e.r)
		b, _ := utf.Put(e.r)
		for i := range a {
			a[i] ^= 255
		}
		c, _ := utf.Put(e.r)
		if !bytes.Equal(b, e.b) || !bytes.Equal(c, e.b) {
			t.Errorf("of %d: %v and %v behind a change; want %v", e.r, b, c, e.b)
		}
	}
}

// P1.2: Next at the edges, alone, with bytes around, and cut off.
func TestNextEdges(t *testing.T) {
	for _, e := range edges {
		n := len(e.b)
		next(t, e.b, 0, e.r, n)
		for _, around := range []byte{0, 122, 128, 191, 195, 255} {
			b := append(append([]byte{around}, e.b...), around, around)
			next(t, b, 1, e.r, n)
			if n == 1 {
				continue
			}
			for at := 2; at <= n; at++ {
				next(t, b, at, -1, 1)
			}
		}
		// What is cut off still lies in memory behind the end, where it may not be read.
		for cut := 1; cut < n; cut++ {
			next(t, e.b[:cut], 0, -1, 1)
			next(t, append([]byte{97}, e.b[:cut]...), 1, -1, 1)
		}
	}
}

// P1.2: the examples.
func TestNextExamples(t *testing.T) {
	next(t, []byte{195, 164}, 0, 228, 2)
	next(t, []byte{195}, 0, -1, 1)
}

// P1.2: places that are none.
func TestNextPlaces(t *testing.T) {
	for _, b := range [][]byte{nil, {}, {97}, {195, 164}, {97, 195}, {240, 144, 128, 128}} {
		for _, at := range []int{math.MinInt, math.MinInt + 1, math.MinInt32, -2, -1, len(b), len(b) + 1, math.MaxInt32, math.MaxInt - 1, math.MaxInt} {
			next(t, b, at, -1, 0)
		}
	}
	next(t, make([]byte, 2, 8), 2, -1, 0)
}

// P1.2: bytes that begin nothing, that are too long, or that tell no scalar.
func TestNextWrong(t *testing.T) {
	for _, b := range [][]byte{
		{128}, {191}, {128, 128}, {192}, {193}, {248}, {255},
		{192, 128}, {193, 191}, // below 128 by two
		{224, 128, 128}, {224, 129, 191}, {224, 159, 191}, // below 2048 by three
		{240, 128, 128, 128}, {240, 130, 128, 128}, {240, 143, 191, 191}, // below 65536 by four
		{237, 160, 128}, {237, 175, 191}, {237, 176, 128}, {237, 191, 191}, // 55296 to 57343
		{244, 144, 128, 128}, {245, 128, 128, 128}, {247, 191, 191, 191}, // above 1114111
		{248, 136, 128, 128, 128}, {252, 132, 128, 128, 128, 128}, {254, 128}, {255, 255},
		{195, 97}, {195, 127}, {195, 192}, {195, 228}, {195, 255}, {195, 0},
		{226, 97, 172}, {226, 130, 97}, {226, 130, 192}, {226, 192, 172},
		{240, 97, 152, 128}, {240, 159, 97, 128}, {240, 159, 152, 97}, {240, 159, 152, 192}, {240, 159, 255, 128},
		{226, 130}, {226}, {240, 159, 152}, {240, 159}, {240},
	} {
		next(t, b, 0, -1, 1)
		next(t, append([]byte{97, 195, 164}, b...), 3, -1, 1)
	}
}

// P1.2: Next of every three bytes, of every shorter bytes, and of many four, as the library's decoder tells it.
func TestNextAll(t *testing.T) {
	b := make([]byte, 4)
	hold := func(b []byte) {
		r, n := utf8.DecodeRune(b)
		if r == utf8.RuneError && n == 1 {
			r = -1
		}
		next(t, b, 0, int(r), n)
	}
	for i := range 1 << 24 {
		b[0], b[1], b[2] = byte(i>>16), byte(i>>8), byte(i)
		hold(b[:3])
		if b[2] == 0 {
			hold(b[:2])
		}
		if i&65535 == 0 {
			hold(b[:1])
		}
	}
	borders := []byte{0, 127, 128, 129, 143, 144, 159, 160, 191, 192, 255}
	for first := 128; first < 256; first++ {
		for second := range 256 {
			for _, third := range borders {
				for _, fourth := range borders {
					b[0], b[1], b[2], b[3] = byte(first), byte(second), third, fourth
					hold(b)
				}
			}
		}
	}
}

// P1.2: Units.
func TestUnits(t *testing.T) {
	for _, c := range []struct {
		b    []byte
		want int
	}{
		{nil, 0}, {[]byte{}, 0}, {[]byte{97}, 1}, {[]byte{0, 0, 0}, 3},
		{[]byte{195, 164}, 1}, {[]byte{195}, 1}, {[]byte{164, 195}, 2}, {[]byte{195, 195, 164}, 2}, {[]byte{195, 164, 164}, 2},
		{[]byte{226, 130, 172}, 1}, {[]byte{226, 130}, 2}, {[]byte{226, 130, 226, 130, 172}, 3},
		{[]byte{240, 159, 152, 128}, 1}, {[]byte{240, 159, 152}, 3}, {[]byte{240, 159, 152, 97}, 4},
		{[]byte{192, 128}, 2}, {[]byte{237, 160, 128}, 3}, {[]byte{244, 144, 128, 128}, 4}, {[]byte{255, 255, 255}, 3},
		{[]byte{97, 195, 164, 226, 130, 255}, 5},
		{[]byte{97, 195, 164, 226, 130, 172, 240, 159, 152, 128, 98}, 5},
	} {
		if got := utf.Units(c.b); got != c.want {
			t.Errorf("Units(%v) = %d; want %d", c.b, got, c.want)
		}
	}
	if got := utf.Units(make([]byte, 5, 50)); got != 5 {
		t.Errorf("%d units of 5 bytes with memory behind them", got)
	}
}

// P1.2: Units is how often Next goes on.
func TestUnitsByNext(t *testing.T) {
	var b []byte
	for i := range 40 {
		for _, e := range edges {
			b = append(b, e.b[:1+i%len(e.b)]...)
		}
		b = append(b, byte(i*37))
	}
	for from := range b {
		want := 0
		for at := from; at < len(b); want++ {
			_, n := utf.Next(b, at)
			if n < 1 {
				t.Fatalf("Next(b, %d) goes on by %d", at, n)
			}
			at += n
		}
		if got := utf.Units(b[from:]); got != want {
			t.Fatalf("from %d: %d units; want %d", from, got, want)
		}
	}
}

// P1.2 with R3: what is read stays as it was.
func TestReadingChangesNothing(t *testing.T) {
	b := []byte{97, 195, 164, 226, 130, 240, 159, 152, 128, 255, 195}
	before := bytes.Clone(b)
	for at := -1; at <= len(b); at++ {
		utf.Next(b, at)
	}
	utf.Units(b)
	if !bytes.Equal(b, before) {
		t.Errorf("%v became %v", before, b)
	}
}

// P1.3: what is put is read, whatever stands around it.
func TestPutIsRead(t *testing.T) {
	for r := range each {
		p, _ := utf.Put(r)
		next(t, p, 0, r, len(p))
		b := append(append([]byte{195}, p...), byte(r), byte(r>>8))
		next(t, b, 1, r, len(p))
		if n := utf.Units(p); n != 1 {
			t.Fatalf("%d is %d units", r, n)
		}
	}
}

// P1.3: no scalar's bytes are the beginning of another one's.
func TestOneScalarGoesOn(t *testing.T) {
	seen := make(map[string]int)
	for r := range each {
		p, _ := utf.Put(r)
		if other, is := seen[string(p)]; is {
			t.Fatalf("%d and %d are both %v", other, r, p)
		}
		seen[string(p)] = r
	}
	for b, r := range seen {
		for cut := range len(b) {
			if other, is := seen[b[:cut]]; is {
				t.Fatalf("the bytes of %d begin those of %d", other, r)
			}
		}
	}
}

// P1.3: what is read is put as the bytes that were there.
func TestReadIsPut(t *testing.T) {
	b := make([]byte, 3)
	for i := range 1 << 24 {
		b[0], b[1], b[2] = byte(i>>16), byte(i>>8), byte(i)
		r, n := utf.Next(b, 0)
		if r == -1 {
			continue
		}
		if p, is := utf.Put(r); !is || !bytes.Equal(p, b[:n]) {
			t.Fatalf("%v is read as %d, which is put as %v, %t", b[:n], r, p, is)
		}
	}
}
