package utfd

import (
	"bytes"
	"math"
	"slices"
	"testing"

	"polyptych/api"
)

const bad = rune(0xfffd)

// feed takes all bytes of b, one Step each.
func feed(s api.Utf, b []byte) (api.Utf, []rune) {
	var all []rune
	for _, c := range b {
		next, runes := Step(s, c)
		s, all = next, append(all, runes...)
	}
	return s, all
}

// whole reads b as one text, with an End behind it, by looking ahead rather than by steps.
func whole(b []byte) []rune {
	var all []rune
	for len(b) > 0 {
		r, n := first(b)
		all, b = append(all, r), b[n:]
	}
	return all
}

// first reads the rune at b's head, and how many bytes are its own.
func first(b []byte) (rune, int) {
	size, low, value := 0, 0, 0
	switch c := int(b[0]); {
	case c < 0x80:
		return rune(c), 1
	case c>>5 == 0b110:
		size, low, value = 2, 0x80, c-0xc0
	case c>>4 == 0b1110:
		size, low, value = 3, 0x800, c-0xe0
	case c>>3 == 0b11110:
		size, low, value = 4, 0x10000, c-0xf0
	default:
		return bad, 1
	}
	for n := 1; n < size; n++ {
		if n == len(b) || b[n]>>6 != 0b10 {
			return bad, n
		}
		value = value<<6 | int(b[n])&0x3f
	}
	if value < low || value > 0x10ffff || value >= 0xd800 && value < 0xe000 {
		return bad, size
	}
	return rune(value), size
}

// edges are the bytes at both sides of each bound that 1.1 names, and those at which 3 and 4 byte runes turn good or bad.
var edges = []byte{
	0, 'a', 127, 128, 0x82, 0x8f, 0x90, 0x9f, 0xa0, 0xac, 0xbf,
	192, 0xc1, 0xc2, 223, 224, 0xe2, 0xed, 239, 240, 0xf4, 0xf5, 247, 248, 255,
}

// texts calls f with each text of n edge bytes.
func texts(n int, f func(b []byte)) {
	b := make([]byte, n)
	var fill func(at int)
	fill = func(at int) {
		if at == n {
			f(b)
			return
		}
		for _, c := range edges {
			b[at] = c
			fill(at + 1)
		}
	}
	fill(0)
}

// 1.1
func TestStepWithNothingBegun(t *testing.T) {
	for i := range 256 {
		b := byte(i)
		want, runes := api.Utf{}, []rune{bad}
		switch {
		case i <= 127:
			runes = []rune{rune(i)}
		case i >= 192 && i <= 223:
			want, runes = api.Utf{Need: 1, Min: 128, Got: i - 192}, nil
		case i >= 224 && i <= 239:
			want, runes = api.Utf{Need: 2, Min: 2048, Got: i - 224}, nil
		case i >= 240 && i <= 247:
			want, runes = api.Utf{Need: 3, Min: 65536, Got: i - 240}, nil
		}
		s, got := Step(api.Utf{}, b)
		if s != want || !slices.Equal(got, runes) {
			t.Errorf("byte %d: %+v %x, want %+v %x", i, s, got, want, runes)
		}
	}
}

// 1.1
func TestStepGoesOn(t *testing.T) {
	for i := range 64 {
		b := byte(128 + i)
		for _, x := range []struct {
			text string
			want api.Utf
		}{
			{"\xe2", api.Utf{Need: 1, Min: 2048, Got: 2*64 + i}},
			{"\xf3", api.Utf{Need: 2, Min: 65536, Got: 3*64 + i}},
			{"\xf3\x85", api.Utf{Need: 1, Min: 65536, Got: (3*64+5)*64 + i}},
		} {
			s, _ := feed(api.Utf{}, []byte(x.text))
			s, got := Step(s, b)
			if s != x.want || len(got) != 0 {
				t.Errorf("%x %x: %+v %x, want %+v", x.text, b, s, got, x.want)
			}
		}
	}
}

// 1.1
func TestStepEnds(t *testing.T) {
	for _, x := range []struct {
		text string
		want rune
	}{
		{"\xc3\xa9", 0xe9}, {"\xe2\x82\xac", 0x20ac}, {"\xf0\x9d\x84\x9e", 0x1d11e},
		{"\xc1\xbf", bad}, {"\xc2\x80", 128}, {"\xdf\xbf", 2047},
		{"\xe0\x9f\xbf", bad}, {"\xe0\xa0\x80", 2048}, {"\xef\xbf\xbf", 65535},
		{"\xf0\x8f\xbf\xbf", bad}, {"\xf0\x90\x80\x80", 65536},
		{"\xed\x9f\xbf", 55295}, {"\xed\xa0\x80", bad}, {"\xed\xbf\xbf", bad}, {"\xee\x80\x80", 57344},
		{"\xf4\x8f\xbf\xbf", 1114111}, {"\xf4\x90\x80\x80", bad}, {"\xf7\xbf\xbf\xbf", bad},
		{"\xef\xbf\xbd", bad}, {"\xc0\x80", bad},
	} {
		last := len(x.text) - 1
		s, early := feed(api.Utf{}, []byte(x.text[:last]))
		s, got := Step(s, x.text[last])
		if len(early) != 0 || s != (api.Utf{}) || !slices.Equal(got, []rune{x.want}) {
			t.Errorf("%x: %x %+v %x, want %x", x.text, early, s, got, x.want)
		}
	}
}

// 1.1
func TestStepBrokenOff(t *testing.T) {
	for _, begin := range []string{"\xc3", "\xe2", "\xe2\x82", "\xf0", "\xf0\x9d", "\xf0\x9d\x84"} {
		for i := range 256 {
			if i >= 128 && i <= 191 {
				continue
			}
			s, _ := feed(api.Utf{}, []byte(begin))
			s, got := Step(s, byte(i))
			want, runes := Step(api.Utf{}, byte(i))
			if s != want || !slices.Equal(got, append([]rune{bad}, runes...)) {
				t.Errorf("%x then %x: %+v %x", begin, i, s, got)
			}
		}
	}
}

// 1.1
func TestEnd(t *testing.T) {
	for text, begun := range map[string]bool{
		"": false, "a": false, "\xc3\xa9": false, "\x80": false, "\xff": false, "\xc3a": false, "\xed\xa0\x80": false,
		"\xc3": true, "\xc0": true, "\xe2": true, "\xe2\x82": true, "\xf0\x9d\x84": true, "\xc3\xc3": true,
	} {
		s, _ := feed(api.Utf{}, []byte(text))
		var want []rune
		if begun {
			want = []rune{bad}
		}
		if got := End(s); !slices.Equal(got, want) {
			t.Errorf("%x: %x", text, got)
		}
	}
}

// 1.1
func TestAnyBytes(t *testing.T) {
	for n := range 5 {
		texts(n, func(b []byte) {
			s, got := feed(api.Utf{}, b)
			if got = append(got, End(s)...); !slices.Equal(got, whole(b)) {
				t.Fatalf("%x: %x, want %x", b, got, whole(b))
			}
		})
	}
}

// 1.1 and rule 3: an answer is new memory, its spare room too.
func TestAnswersAreNew(t *testing.T) {
	begun := api.Utf{Need: 1, Min: 128, Got: 3}
	answers := map[string]func() []rune{
		"Step":        func() []rune { _, l := Step(api.Utf{}, 'a'); return l },
		"Step bad":    func() []rune { _, l := Step(api.Utf{}, 255); return l },
		"Step ends":   func() []rune { _, l := Step(begun, 0xa9); return l },
		"Step breaks": func() []rune { _, l := Step(begun, 'a'); return l },
		"End":         func() []rune { return End(begun) },
	}
	for name, answer := range answers {
		a := answer()
		want := slices.Clone(a)
		a = a[:cap(a)]
		for i := range a {
			a[i] = 'x'
		}
		if b := answer(); !slices.Equal(b, want) {
			t.Errorf("%s: %x, want %x", name, b, want)
		}
	}
	for _, r := range []rune{'a', 0xe9, 0x20ac, 0x1d11e, -1} {
		a := Put(r)
		want := slices.Clone(a)
		a = a[:cap(a)]
		for i := range a {
			a[i] = 'x'
		}
		if b := Put(r); !bytes.Equal(b, want) {
			t.Errorf("Put %x: %x, want %x", r, b, want)
		}
	}
}

// places writes r's bytes from the places of its bits.
func places(r rune) []byte {
	six := func(shift int) byte { return 0x80 + byte(r>>shift)&0x3f }
	switch {
	case r < 0x80:
		return []byte{byte(r)}
	case r < 0x800:
		return []byte{0xc0 + byte(r>>6), six(0)}
	case r < 0x10000:
		return []byte{0xe0 + byte(r>>12), six(6), six(0)}
	}
	return []byte{0xf0 + byte(r>>18), six(12), six(6), six(0)}
}

// 1.2
func TestPutRunes(t *testing.T) {
	for r := rune(0); r <= 1114111; r++ {
		if r == 55296 {
			r = 57344
		}
		got := Put(r)
		if !bytes.Equal(got, places(r)) {
			t.Fatalf("%x: %x, want %x", r, got, places(r))
		}
		if s, back := feed(api.Utf{}, got); s != (api.Utf{}) || !slices.Equal(back, []rune{r}) {
			t.Fatalf("%x comes back as %x", r, back)
		}
	}
}

// 1.2
func TestPutNoRunes(t *testing.T) {
	check := func(r rune) {
		if got := Put(r); !bytes.Equal(got, []byte{0xef, 0xbf, 0xbd}) {
			t.Errorf("%d: %x", r, got)
		}
	}
	for r := rune(55296); r <= 57343; r++ {
		check(r)
	}
	for _, r := range []rune{-1, -2, -65, -128, math.MinInt32, 1114112, 1114113, 0x200000, math.MaxInt32} {
		check(r)
	}
}

// 1.3
func TestPiecesAreTheWhole(t *testing.T) {
	text := []byte("a\xc3\xa9\xe2\x82\xac\xf0\x9d\x84\x9e\x80\xc3\xe2\x82z\xed\xa0\x80\xf4\x90\x80\x80\xff\xf0\x9d")
	end, want := feed(api.Utf{}, text)
	for from := range len(text) + 1 {
		for to := from; to <= len(text); to++ {
			s, a := feed(api.Utf{}, text[:from])
			s, b := feed(s, text[from:to])
			s, c := feed(s, text[to:])
			if got := slices.Concat(a, b, c); s != end || !slices.Equal(got, want) {
				t.Fatalf("cut at %d and %d: %+v %x, want %+v %x", from, to, s, got, end, want)
			}
		}
	}
	if got := append(want, End(end)...); !slices.Equal(got, whole(text)) {
		t.Errorf("%x, want %x", got, whole(text))
	}
}

// 1.3: what is begun stands in the api.Utf alone, so that two texts can be fed by turns.
func TestTurnsDoNotMix(t *testing.T) {
	one, two := []byte("\xe2\x82\xac\xc3\xf0\x9d\x84\x9ea"), []byte("\xf0\x9d\x84\x9e\xe2\x82\xac\xc3\xa9")
	var s, u api.Utf
	var got, other []rune
	for i := range len(one) {
		var a, b []rune
		s, a = Step(s, one[i])
		u, b = Step(u, two[i])
		got, other = append(got, a...), append(other, b...)
	}
	if !slices.Equal(got, whole(one)) || !slices.Equal(other, whole(two)) {
		t.Errorf("%x %x", got, other)
	}
}

// 1.4: even of an api.Utf that no Steps make.
func TestNoPanic(t *testing.T) {
	odd := []int{math.MinInt, math.MinInt32, -1, 0, 1, 2, 3, 4, 128, 55296, 65536, 1114111, 1114112, math.MaxInt32, math.MaxInt / 64, math.MaxInt}
	for _, need := range odd {
		for _, least := range odd {
			for _, got := range odd {
				s := api.Utf{Need: need, Min: least, Got: got}
				End(s)
				for i := range 256 {
					Step(s, byte(i))
				}
			}
		}
	}
	for _, r := range []rune{math.MinInt32, -1, 0, 55296, 1114112, math.MaxInt32} {
		Put(r)
	}
}
