package rati

import (
	"math"
	"math/big"
	"slices"
	"testing"
)

// edges are numbers at a length's ends, and at the ends of int.
var edges = []int{
	math.MinInt, math.MinInt + 1, math.MinInt32, -10_001, -10_000, -2, -1, 0, 1, 2, 3, 9, 10,
	9_999, 10_000, 10_001, 20_000, 1 << 16, math.MaxInt32, 1 << 32, 1 << 53, 1<<53 + 1, math.MaxInt - 1, math.MaxInt,
}

var minusZero = math.Copysign(0, -1)

// nans are NaNs of both signs, quiet and not.
func nans() []float64 {
	var out []float64
	for _, bits := range []uint64{0x7ff8000000000000, 0x7ff8000000000001, 0x7ff0000000000001, 0x7fffffffffffffff, 0xfff8000000000000, 0xfff0000000000001, 0xffffffffffffffff} {
		out = append(out, math.Float64frombits(bits))
	}
	return append(out, math.NaN(), -math.NaN())
}

// below are shares below 0, and the two zeros; rising.
func below() []float64 {
	return []float64{
		math.Inf(-1), -math.MaxFloat64, -1e300, -10_000, -2, -1.5, math.Nextafter(-1, -2), -1, math.Nextafter(-1, 0), -0.5, -0.1,
		-0x1p-1022, -math.SmallestNonzeroFloat64, minusZero, 0,
	}
}

// inside are shares above 0, to 1; rising.
func inside() []float64 {
	out := []float64{
		math.SmallestNonzeroFloat64, 0x1p-1022, 1e-300, 1e-9, 1e-5, 1e-4, math.Nextafter(1e-4, 1), 0.001, 0.01, 1.0 / 49, 0.1, math.Nextafter(0.1, 1),
		0.25, 0.29, 1.0 / 3, math.Nextafter(0.5, 0), 0.5, math.Nextafter(0.5, 1), 0.57, 2.0 / 3, 0.7, 0.75, 0.9, 0.99, 0.999, 0.9999, 0.99999,
		math.Nextafter(1, 0), 1,
	}
	slices.Sort(out)
	return out
}

// above are shares above 1; rising.
func above() []float64 {
	return []float64{math.Nextafter(1, 2), 1.0001, 1.5, 2, 3, 10_000, 0x1p31, 0x1p53, 0x1p63, 0x1p64, 1e19, 1e300, math.MaxFloat64, math.Inf(1)}
}

// every are all of them.
func every() []float64 {
	return slices.Concat(below(), inside(), above(), nans())
}

// told is what the chapter's words ask of Part for a share of 0 to 1: the product is rounded to the 53 bits of a float64, and cut.
func told(n int, r float64) int {
	product := new(big.Float).SetPrec(53).SetMode(big.ToNearestEven)
	product.Mul(big.NewFloat(r), big.NewFloat(float64(n)))
	whole, _ := product.Int64()
	return int(whole)
}

// 8.1: Part, written out.
func TestPartWrittenOut(t *testing.T) {
	for _, x := range []struct {
		n    int
		r    float64
		want int
	}{
		{9, math.NaN(), 4}, {10, math.NaN(), 5}, {1, math.NaN(), 0}, {0, math.NaN(), 0}, {10_000, math.NaN(), 5_000},
		{9, 0.5, 4}, {10, 0.5, 5}, {1, 0.5, 0}, {0, 0.5, 0}, {79, 0.5, 39}, {100, 0.25, 25}, {99, 0.25, 24}, {99, 0.75, 74},
		{9, 0, 0}, {9, minusZero, 0}, {9, 1, 9}, {0, 1, 0}, {10_000, 1, 10_000},
		{9, -0.1, 0}, {9, -1, 0}, {9, -1e300, 0}, {9, math.Inf(-1), 0}, {9, -math.SmallestNonzeroFloat64, 0},
		{9, 1.1, 9}, {9, 2, 9}, {9, 1e300, 9}, {9, math.Inf(1), 9}, {9, math.Nextafter(1, 2), 9},
		{0, math.Inf(1), 0}, {0, math.Inf(-1), 0}, {10_000, math.SmallestNonzeroFloat64, 0},
		{9, math.Nextafter(1, 0), 8}, {10_000, math.Nextafter(1, 0), 9_999}, {10_000, 0.0001, 1}, {10_000, 0.99999, 9_999},
		{2, math.Nextafter(0.5, 0), 0}, {2, math.Nextafter(0.5, 1), 1},
		// Numbers of 53 bits, and a product of as many: 0.7 is less than seven tenths, but ten times it is 7.
		{10, 0.7, 7}, {3, 1.0 / 3, 1}, {100, 0.29, 28}, {100, 0.57, 56}, {49, 1.0 / 49, 0},
	} {
		if got := Part(x.n, x.r); got != x.want {
			t.Errorf("Part(%d, %v): %d, want %d", x.n, x.r, got, x.want)
		}
	}
}

// 8.1: of a share of 0 to 1, the whole part of the product, at every length.
func TestPartInside(t *testing.T) {
	for n := range 10_001 {
		for _, r := range append(inside(), 0) {
			if got, want := Part(n, r), told(n, r); got != want {
				t.Errorf("Part(%d, %v): %d, want %d", n, r, got, want)
			}
		}
	}
	for least := 1; least <= 120; least++ {
		for m := range least + 1 {
			r := float64(m) / float64(least)
			for _, n := range []int{1, 2, 3, 7, least, 49, 79, 98, 99, 100, 999, 1_000, 9_999, 10_000} {
				if got, want := Part(n, r), told(n, r); got != want {
					t.Errorf("Part(%d, %d/%d): %d, want %d", n, m, least, got, want)
				}
			}
		}
	}
}

// 8.1: of other shares, at every length: 0 below 0, all above 1, half of NaN.
func TestPartOutside(t *testing.T) {
	for n := range 10_001 {
		for _, r := range below() {
			if got := Part(n, r); got != 0 {
				t.Errorf("Part(%d, %v): %d", n, r, got)
			}
		}
		for _, r := range above() {
			if got := Part(n, r); got != n {
				t.Errorf("Part(%d, %v): %d", n, r, got)
			}
		}
		for _, r := range nans() {
			if got := Part(n, r); got != (n-n%2)/2 {
				t.Errorf("Part(%d, NaN %x): %d", n, math.Float64bits(r), got)
			}
		}
	}
}

// 8.1: n is held to 0 to 10,000, whatever the share.
func TestPartHoldsLength(t *testing.T) {
	for _, n := range edges {
		held := n
		if n < 0 {
			held = 0
		} else if n > 10_000 {
			held = 10_000
		}
		for _, r := range every() {
			if got, want := Part(n, r), Part(held, r); got != want {
				t.Errorf("Part(%d, %v): %d, want %d", n, r, got, want)
			}
		}
	}
	for _, x := range [][3]int{{-1, 2, 0}, {math.MinInt, 2, 0}, {10_001, 2, 10_000}, {math.MaxInt, 2, 10_000}, {math.MaxInt, 1, 10_000}, {math.MinInt, 1, 0}} {
		if got := Part(x[0], float64(x[1])); got != x[2] {
			t.Error(x, got)
		}
	}
	if Part(-4, 0.5) != 0 || Part(-5, math.NaN()) != 0 || Part(20_001, 0.5) != 5_000 || Part(math.MaxInt, math.NaN()) != 5_000 {
		t.Error("half of a length that is held")
	}
}

// 8.1: Held, written out: lo first, and then hi, which holds where they cross.
func TestHeldWrittenOut(t *testing.T) {
	for _, x := range [][4]int{
		{5, 1, 9, 5}, {1, 1, 9, 1}, {9, 1, 9, 9}, {0, 1, 9, 1}, {10, 1, 9, 9}, {-5, 1, 9, 1}, {50, 1, 9, 9}, {-3, -5, -1, -3}, {-7, -5, -1, -5}, {3, -5, -1, -1},
		{5, 9, 1, 1}, {0, 9, 1, 1}, {10, 9, 1, 1}, {-5, 9, 1, 1}, {5, 1, -1, -1}, {0, 3, 3, 3}, {4, 3, 3, 3}, {3, 3, 3, 3}, {2, 3, 2, 2}, {0, 0, 0, 0},
		{math.MinInt, math.MinInt, math.MaxInt, math.MinInt}, {math.MaxInt, math.MinInt, math.MaxInt, math.MaxInt},
		{0, math.MaxInt, math.MinInt, math.MinInt}, {math.MaxInt, 0, 1, 1}, {math.MinInt, 0, 1, 0},
	} {
		if got := Held(x[0], x[1], x[2]); got != x[3] {
			t.Error(x, got)
		}
	}
}

// 8.1: Held of any three numbers.
func TestHeld(t *testing.T) {
	numbers := slices.Clone(edges)
	for n := -4; n <= 4; n++ {
		numbers = append(numbers, n)
	}
	for _, n := range numbers {
		for _, lo := range numbers {
			for _, hi := range numbers {
				want := n
				if want < lo {
					want = lo
				}
				if want > hi {
					want = hi
				}
				if got := Held(n, lo, hi); got != want {
					t.Errorf("Held(%d, %d, %d): %d, want %d", n, lo, hi, got, want)
				}
			}
		}
	}
}

// 8.1: Same, written out.
func TestSameWrittenOut(t *testing.T) {
	for _, x := range []struct {
		a, b float64
		want bool
	}{
		{0, 0, true}, {minusZero, minusZero, true}, {0, minusZero, false}, {minusZero, 0, false},
		{math.NaN(), math.NaN(), true}, {math.NaN(), -math.NaN(), true}, {math.NaN(), 0, false}, {0, math.NaN(), false},
		{math.NaN(), math.Inf(1), false}, {math.Inf(-1), math.NaN(), false}, {math.NaN(), 1, false},
		{math.Inf(1), math.Inf(1), true}, {math.Inf(-1), math.Inf(-1), true}, {math.Inf(1), math.Inf(-1), false},
		{math.Inf(1), math.MaxFloat64, false}, {0, math.SmallestNonzeroFloat64, false},
		{0.1, 0.1, true}, {0.1, -0.1, false}, {0.1, math.Nextafter(0.1, 1), false}, {0.1, float64(float32(0.1)), false}, {1, math.Nextafter(1, 0), false},
	} {
		if got := Same(x.a, x.b); got != x.want {
			t.Errorf("Same(%v, %v): %v", x.a, x.b, got)
		}
	}
}

// 8.1: Same of all NaNs, whatever their bits, and of every other number and its own bits alone.
func TestSame(t *testing.T) {
	numbers := slices.Concat(below(), inside(), above())
	for i, a := range numbers {
		for k, b := range numbers {
			if Same(a, b) != (i == k) {
				t.Errorf("Same(%v, %v): %v", a, b, i != k)
			}
		}
		for _, b := range nans() {
			if Same(a, b) || Same(b, a) {
				t.Errorf("Same(%v, NaN %x)", a, math.Float64bits(b))
			}
		}
	}
	for _, a := range nans() {
		for _, b := range nans() {
			if !Same(a, b) {
				t.Errorf("NaNs %x, %x", math.Float64bits(a), math.Float64bits(b))
			}
		}
	}
}

// patterns calls f with floats of both signs, of every exponent, and with bits of many kinds behind it.
func patterns(f func(r float64)) {
	for top := range uint64(1 << 12) {
		for _, low := range []uint64{0, 1, 2, 1<<51 - 1, 1 << 51, 1<<51 + 1, 0x5555555555555, 0xaaaaaaaaaaaaa, 0x999999999999a, 1<<52 - 2, 1<<52 - 1} {
			f(math.Float64frombits(top<<52 | low))
		}
	}
}

// 8.2, W3: any number is a share: what comes of it is a part of n, as the chapter says.
func TestAnyNumber(t *testing.T) {
	patterns(func(r float64) {
		for _, n := range []int{0, 1, 2, 9, 10, 79, 1_000, 9_999, 10_000} {
			want := 0
			switch {
			case r != r:
				want = n / 2
			case r > 1:
				want = n
			case r > 0:
				want = told(n, r)
			}
			if got := Part(n, r); got != want {
				t.Errorf("Part(%d, %v): %d, want %d", n, r, got, want)
			}
		}
	})
}

// 8.2: a greater share is never a smaller part.
func TestPartRises(t *testing.T) {
	shares := slices.Concat(below(), inside(), above())
	for n := range 10_001 {
		last := 0
		for _, r := range shares {
			got := Part(n, r)
			if got < last || got > n {
				t.Errorf("Part(%d, %v): %d behind %d", n, r, got, last)
			}
			last = got
		}
	}
}

// 8.2: any number is the same as itself, and as no other sign of it.
func TestAnyNumberIsItself(t *testing.T) {
	patterns(func(r float64) {
		if !Same(r, r) || Same(r, -r) != (r != r) {
			t.Errorf("%v, %x", r, math.Float64bits(r))
		}
	})
}

// 8.3: no call panics, whatever it is given.
func TestNoPanic(t *testing.T) {
	for _, n := range edges {
		patterns(func(r float64) {
			if got := Part(n, r); got < 0 || got > 10_000 {
				t.Errorf("Part(%d, %v): %d", n, r, got)
			}
			Same(r, float64(n))
			Same(float64(n), r)
		})
		for _, lo := range edges {
			for _, hi := range edges {
				Held(n, lo, hi)
			}
		}
	}
}
