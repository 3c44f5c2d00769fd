package attr

import (
	"math"
	"slices"
	"testing"
)

// parts is what Parts answers, to be held against another.
type parts struct {
	bold, under, turned bool
	fore, back          int
}

func partsOf(a int) parts {
	var p parts
	p.bold, p.under, p.turned, p.fore, p.back = Parts(a)
	return p
}

// every calls f with each attribute that Make can answer, and its parts.
func every(f func(a int, p parts)) {
	for back := range 9 {
		for fore := range 9 {
			for n := range 8 {
				f(n+16*fore+256*back, parts{n%2 == 1, n/2%2 == 1, n/4 == 1, fore, back})
			}
		}
	}
}

// odd are numbers with something beside an attribute's own places, and the ends of int.
var odd = []int{
	8, 15, 9 * 16, 15 * 16, 9 * 256, 15 * 256, 4095, 4096, 4097, 1 << 30, 1<<40 + 5, math.MaxInt32, math.MaxInt,
	-1, -2, -8, -9, -16, -17, -256, -4095, -4096, -4097, math.MinInt32, math.MinInt, math.MinInt + 1,
}

// 3.1
func TestMake(t *testing.T) {
	every(func(a int, p parts) {
		if got := Make(p.bold, p.under, p.turned, p.fore, p.back); got != a {
			t.Errorf("%+v: %d, want %d", p, got, a)
		}
	})
}

// 3.1: colours are held to 0 to 8.
func TestMakeHoldsColours(t *testing.T) {
	for c, held := range map[int]int{
		math.MinInt: 0, math.MinInt32: 0, -16: 0, -1: 0, 0: 0, 1: 1, 7: 7, 8: 8,
		9: 8, 15: 8, 16: 8, 17: 8, 256: 8, 1 << 32: 8, 1 << 60: 8, math.MaxInt: 8,
	} {
		for other := range 9 {
			if got := Make(true, false, true, c, other); got != 5+16*held+256*other {
				t.Errorf("foreground %d, background %d: %d", c, other, got)
			}
			if got := Make(false, true, false, other, c); got != 2+16*other+256*held {
				t.Errorf("foreground %d, background %d: %d", other, c, got)
			}
		}
	}
}

// 3.1
func TestParts(t *testing.T) {
	every(func(a int, p parts) {
		if got := partsOf(a); got != p {
			t.Errorf("%d: %+v, want %+v", a, got, p)
		}
	})
}

// bit tells place n of a by counting a down, rounding to below, so that numbers below 0 tell theirs.
func bit(a, n int) int {
	for range n {
		a = (a - (a%2+2)%2) / 2
	}
	return (a%2 + 2) % 2
}

// 3.1: a number's own places, whatever else stands in it.
func TestPartsOfAnyNumber(t *testing.T) {
	numbers := slices.Clone(odd)
	for a := -9000; a <= 9000; a++ {
		numbers = append(numbers, a)
	}
	for _, a := range numbers {
		want := parts{
			bit(a, 0) == 1, bit(a, 1) == 1, bit(a, 2) == 1,
			min(8, bit(a, 4)+2*bit(a, 5)+4*bit(a, 6)+8*bit(a, 7)),
			min(8, bit(a, 8)+2*bit(a, 9)+4*bit(a, 10)+8*bit(a, 11)),
		}
		if got := partsOf(a); got != want {
			t.Errorf("%d: %+v, want %+v", a, got, want)
		}
	}
}

// 3.1: the edges that the chapter names, written out.
func TestPartsEdges(t *testing.T) {
	for a, want := range map[int]parts{
		8:           {},
		4096:        {},
		1<<40 + 5:   {bold: true, turned: true},
		128:         {fore: 8},
		144:         {fore: 8},
		240:         {fore: 8},
		2048:        {back: 8},
		2304:        {back: 8},
		3840:        {back: 8},
		-1:          {true, true, true, 8, 8},
		-8:          {fore: 8, back: 8},
		-16:         {fore: 8, back: 8},
		-256:        {back: 8},
		-4096:       {},
		-4096 + 51:  {bold: true, under: true, fore: 3},
		math.MinInt: {},
		math.MaxInt: {true, true, true, 8, 8},
	} {
		if got := partsOf(a); got != want {
			t.Errorf("%d: %+v, want %+v", a, got, want)
		}
	}
}

// known says what each parameter that does something makes of an attribute's parts.
func known() map[int]func(p *parts) {
	all := map[int]func(p *parts){
		-1: func(p *parts) { *p = parts{} },
		0:  func(p *parts) { *p = parts{} },
		1:  func(p *parts) { p.bold = true },
		4:  func(p *parts) { p.under = true },
		7:  func(p *parts) { p.turned = true },
		22: func(p *parts) { p.bold = false },
		24: func(p *parts) { p.under = false },
		27: func(p *parts) { p.turned = false },
		39: func(p *parts) { p.fore = 0 },
		49: func(p *parts) { p.back = 0 },
	}
	for c := 1; c <= 8; c++ {
		all[29+c] = func(p *parts) { p.fore = c }
		all[39+c] = func(p *parts) { p.back = c }
	}
	return all
}

// number writes p as an attribute.
func number(p parts) int {
	a := 16*p.fore + 256*p.back
	for i, set := range []bool{p.bold, p.under, p.turned} {
		if set {
			a += 1 << i
		}
	}
	return a
}

// 3.1: each parameter that does something, of each attribute.
func TestApplyKnown(t *testing.T) {
	for par, change := range known() {
		every(func(a int, p parts) {
			change(&p)
			if got := Apply(a, []int{par}); got != number(p) {
				t.Errorf("%d, %d: %d, want %d", a, par, got, number(p))
			}
		})
	}
}

// 3.1: none is as 0.
func TestApplyNone(t *testing.T) {
	for _, a := range append(slices.Clone(odd), 0, 1, 5, 7, 16, 256, 2183) {
		for _, par := range [][]int{nil, {}, {0}, {-1}, make([]int, 0, 4)} {
			if got := Apply(a, par); got != 0 {
				t.Errorf("%d, %v: %d", a, par, got)
			}
		}
	}
}

// 3.1: in order, the later ones behind the earlier ones.
func TestApplyInOrder(t *testing.T) {
	for _, x := range []struct {
		a    int
		par  []int
		want int
	}{
		{0, []int{1, 4, 7}, 7},
		{0, []int{1, 22}, 0},
		{0, []int{22, 1}, 1},
		{0, []int{31, 0}, 0},
		{0, []int{0, 31}, 32},
		{7, []int{4, -1, 1}, 1},
		{0, []int{31, 32}, 48},
		{0, []int{32, 31}, 32},
		{0, []int{37, 47, 39}, 2048},
		{0, []int{37, 47, 49}, 128},
		{7, []int{22, 24, 27, 99}, 0},
		{7, []int{30, 41, 24, 38}, 5 + 16 + 512},
		{2183, []int{5, 0, 8, 33, 200, 44}, 64 + 1280},
	} {
		if got := Apply(x.a, x.par); got != x.want {
			t.Errorf("%d, %v: %d, want %d", x.a, x.par, got, x.want)
		}
	}
}

// 3.1: however many there are.
func TestApplyMany(t *testing.T) {
	par := slices.Repeat([]int{0, 1, 4, 7, 37, 47, 22, 38}, 1000)
	if got := Apply(0, par); got != 6+128+2048 {
		t.Error(got)
	}
}

// 3.1: what comes is Make of Parts, so what has no place goes.
func TestApplyIsMakeOfParts(t *testing.T) {
	all := known()
	for _, a := range odd {
		if got, want := Apply(a, []int{2}), number(partsOf(a)); got != want {
			t.Errorf("%d: %d, want %d", a, got, want)
		}
		for par, change := range all {
			p := partsOf(a)
			change(&p)
			if got := Apply(a, []int{par}); got != number(p) {
				t.Errorf("%d, %d: %d, want %d", a, par, got, number(p))
			}
		}
	}
}

// 3.2: what is not known changes nothing, alone or among others.
func TestUnknownChangesNothing(t *testing.T) {
	all := known()
	unknown := []int{math.MinInt, math.MinInt32, 65535, 65536, 1 << 32, 1<<32 + 1, math.MaxInt32, math.MaxInt}
	for par := -300; par <= 300; par++ {
		if _, ok := all[par]; !ok {
			unknown = append(unknown, par)
		}
	}
	for _, u := range unknown {
		every(func(a int, _ parts) {
			if got := Apply(a, []int{u}); got != a {
				t.Errorf("%d, %d: %d", a, u, got)
			}
		})
		for par := range all {
			want := Apply(1026, []int{par})
			if one, two := Apply(1026, []int{u, par}), Apply(1026, []int{par, u}); one != want || two != want {
				t.Errorf("%d and %d: %d %d, want %d", u, par, one, two, want)
			}
		}
	}
}

// 3.2, W3: applied in pieces or at once it is the same.
func TestPieces(t *testing.T) {
	telling := []int{-2, -1, 0, 1, 4, 7, 22, 24, 27, 30, 37, 38, 39, 40, 47, 48, 49, 50}
	for _, a := range []int{0, 2183, 1026, -1, 8} {
		for _, x := range telling {
			for _, y := range telling {
				for _, z := range telling {
					want := Apply(a, []int{x, y, z})
					one := Apply(Apply(a, []int{x}), []int{y, z})
					two := Apply(Apply(a, []int{x, y}), []int{z})
					if one != want || two != want {
						t.Fatalf("%d, %d %d %d: %d %d, want %d", a, x, y, z, one, two, want)
					}
				}
			}
		}
	}
}

// 3.3: whatever is given, an attribute is answered.
func TestNoPanic(t *testing.T) {
	answers := map[int]int{}
	every(func(a int, _ parts) { answers[a]++ })
	for _, a := range odd {
		for _, b := range odd {
			for _, got := range []int{Apply(a, []int{b}), Apply(a, []int{b, a, b}), Make(true, true, true, a, b)} {
				if answers[got] == 0 {
					t.Errorf("%d %d: %d is no attribute", a, b, got)
				}
			}
		}
		if p := partsOf(a); p.fore < 0 || p.fore > 8 || p.back < 0 || p.back > 8 {
			t.Errorf("%d: %+v", a, p)
		}
	}
}

// Rule 3: what is handed in is not changed, nor the spare room behind it.
func TestParStays(t *testing.T) {
	room := []int{-1, 0, 1, 38, 49, 70, 71}
	want := slices.Clone(room)
	Apply(7, room[:0])
	Apply(7, room[:5])
	if !slices.Equal(room, want) {
		t.Error(room)
	}
}
