package rect

import (
	"math"
	"testing"

	"polyptych/api"
)

// edges are numbers at a rectangle's ends, and at the ends of int.
var edges = []int{
	math.MinInt, math.MinInt + 1, math.MinInt32, -1_001, -1_000, -2, -1, 0, 1, 2, 3, 4, 499, 500,
	997, 998, 999, 1_000, 1_001, 1_002, 2_000, math.MaxInt32, 1 << 32, 1<<32 + 1, 1 << 62, math.MaxInt - 1, math.MaxInt,
}

// outside are the numbers that no rectangle has.
var outside = []int{math.MinInt, math.MinInt + 1, math.MinInt32, -1_000, -1, 1_001, 1_002, 2_000, 1 << 32, 1<<32 + 1, math.MaxInt - 1, math.MaxInt}

// dirs are both directions, and numbers that are none.
var dirs = []int{api.DRight, api.DDown, 0, 3, -1, -2, 4, 1<<32 + 1, math.MinInt, math.MaxInt}

// small calls f with rectangles of all small sizes at some places, and with some at the bounds.
func small(f func(r api.Rect)) {
	for w := range 8 {
		for h := range 8 {
			for _, at := range [][2]int{{0, 0}, {3, 1}, {0, 5}, {1_000, 0}, {999, 1_000}, {1_000, 1_000}} {
				f(api.Rect{X: at[0], Y: at[1], W: w, H: h})
			}
		}
	}
}

// nones calls f with rectangles that are none: each field in turn, and all of them, is beyond its bounds.
func nones(f func(r api.Rect)) {
	for _, n := range outside {
		for _, good := range []api.Rect{{}, {X: 1, Y: 2, W: 9, H: 8}, {X: 1_000, Y: 1_000, W: 1_000, H: 1_000}} {
			for field := range 4 {
				r := good
				*[]*int{&r.X, &r.Y, &r.W, &r.H}[field] = n
				f(r)
			}
		}
		f(api.Rect{X: n, Y: n, W: n, H: n})
	}
}

// check is what Cut must answer where it cuts.
func check(t *testing.T, r api.Rect, dir, first int, wantA, wantBorder, wantB api.Rect) {
	t.Helper()
	a, border, b, ok := Cut(r, dir, first)
	if !ok || a != wantA || border != wantBorder || b != wantB {
		t.Errorf("Cut(%v, %d, %d): %v, %v, %v, %v, want %v, %v, %v", r, dir, first, a, border, b, ok, wantA, wantBorder, wantB)
	}
}

// checkFalse is what Cut must answer where it doesn't.
func checkFalse(t *testing.T, r api.Rect, dir, first int) {
	t.Helper()
	a, border, b, ok := Cut(r, dir, first)
	if ok || a != (api.Rect{}) || border != (api.Rect{}) || b != (api.Rect{}) {
		t.Errorf("Cut(%v, %d, %d): %v, %v, %v, %v, want false", r, dir, first, a, border, b, ok)
	}
}

// 9.1: Cut, written out.
func TestCutWrittenOut(t *testing.T) {
	r := api.Rect{X: 2, Y: 3, W: 9, H: 6}
	check(t, r, api.DRight, 1, api.Rect{X: 2, Y: 3, W: 1, H: 6}, api.Rect{X: 3, Y: 3, W: 1, H: 6}, api.Rect{X: 4, Y: 3, W: 7, H: 6})
	check(t, r, api.DRight, 4, api.Rect{X: 2, Y: 3, W: 4, H: 6}, api.Rect{X: 6, Y: 3, W: 1, H: 6}, api.Rect{X: 7, Y: 3, W: 4, H: 6})
	check(t, r, api.DRight, 7, api.Rect{X: 2, Y: 3, W: 7, H: 6}, api.Rect{X: 9, Y: 3, W: 1, H: 6}, api.Rect{X: 10, Y: 3, W: 1, H: 6})
	check(t, r, api.DDown, 1, api.Rect{X: 2, Y: 3, W: 9, H: 1}, api.Rect{X: 2, Y: 4, W: 9, H: 1}, api.Rect{X: 2, Y: 5, W: 9, H: 4})
	check(t, r, api.DDown, 4, api.Rect{X: 2, Y: 3, W: 9, H: 4}, api.Rect{X: 2, Y: 7, W: 9, H: 1}, api.Rect{X: 2, Y: 8, W: 9, H: 1})
	for _, first := range []int{0, -1, 8, 9, 10, 11, math.MinInt, math.MaxInt} {
		checkFalse(t, r, api.DRight, first)
	}
	for _, first := range []int{0, -1, 5, 6, 7, 8, math.MinInt, math.MaxInt} {
		checkFalse(t, r, api.DDown, first)
	}
}

// 9.1: three columns (rows) are the least that can be cut; of two, one or none nothing is left for a part.
func TestCutLeast(t *testing.T) {
	check(t, api.Rect{W: 3, H: 1}, api.DRight, 1, api.Rect{W: 1, H: 1}, api.Rect{X: 1, W: 1, H: 1}, api.Rect{X: 2, W: 1, H: 1})
	check(t, api.Rect{W: 1, H: 3}, api.DDown, 1, api.Rect{W: 1, H: 1}, api.Rect{Y: 1, W: 1, H: 1}, api.Rect{Y: 2, W: 1, H: 1})
	for _, first := range edges {
		for length := range 3 {
			checkFalse(t, api.Rect{W: length, H: 9}, api.DRight, first)
			checkFalse(t, api.Rect{W: 9, H: length}, api.DDown, first)
		}
		if first != 1 {
			checkFalse(t, api.Rect{W: 3, H: 9}, api.DRight, first)
			checkFalse(t, api.Rect{W: 9, H: 3}, api.DDown, first)
		}
	}
}

// 9.1: a rectangle that has no rows (columns) has columns (rows) to cut all the same.
func TestCutOfNoPlaces(t *testing.T) {
	check(t, api.Rect{X: 5, Y: 6, W: 4}, api.DRight, 2, api.Rect{X: 5, Y: 6, W: 2}, api.Rect{X: 7, Y: 6, W: 1}, api.Rect{X: 8, Y: 6, W: 1})
	check(t, api.Rect{X: 5, Y: 6, H: 4}, api.DDown, 1, api.Rect{X: 5, Y: 6, H: 1}, api.Rect{X: 5, Y: 7, H: 1}, api.Rect{X: 5, Y: 8, H: 2})
	checkFalse(t, api.Rect{X: 5, Y: 6, W: 4}, api.DDown, 1)
	checkFalse(t, api.Rect{X: 5, Y: 6, H: 4}, api.DRight, 1)
}

// 9.1: 0 and 1,000 are numbers of a rectangle still; the parts of one that ends beyond 1,000 are told as they are.
func TestCutAtTheBounds(t *testing.T) {
	whole := api.Rect{X: 1_000, Y: 1_000, W: 1_000, H: 1_000}
	check(t, whole, api.DRight, 998, api.Rect{X: 1_000, Y: 1_000, W: 998, H: 1_000}, api.Rect{X: 1_998, Y: 1_000, W: 1, H: 1_000}, api.Rect{X: 1_999, Y: 1_000, W: 1, H: 1_000})
	check(t, whole, api.DDown, 998, api.Rect{X: 1_000, Y: 1_000, W: 1_000, H: 998}, api.Rect{X: 1_000, Y: 1_998, W: 1_000, H: 1}, api.Rect{X: 1_000, Y: 1_999, W: 1_000, H: 1})
	check(t, api.Rect{W: 1_000, H: 1_000}, api.DRight, 1, api.Rect{W: 1, H: 1_000}, api.Rect{X: 1, W: 1, H: 1_000}, api.Rect{X: 2, W: 998, H: 1_000})
	check(t, api.Rect{W: 1_000, H: 1_000}, api.DDown, 1, api.Rect{W: 1_000, H: 1}, api.Rect{Y: 1, W: 1_000, H: 1}, api.Rect{Y: 2, W: 1_000, H: 998})
	for _, dir := range []int{api.DRight, api.DDown} {
		checkFalse(t, whole, dir, 999)
		checkFalse(t, whole, dir, 1_000)
	}
}

// 9.1: a has the columns (rows) below first, the border the one at first, b those behind it: asked of every one of them.
func TestCutTellsEachColumn(t *testing.T) {
	small(func(r api.Rect) {
		for _, first := range edges {
			tellsEach(t, r, api.DRight, first, r.X, r.W, func(p api.Rect) (int, int) { return p.X, p.W })
			tellsEach(t, r, api.DDown, first, r.Y, r.H, func(p api.Rect) (int, int) { return p.Y, p.H })
		}
	})
	for _, r := range []api.Rect{{W: 1_000, H: 1_000}, {X: 1_000, Y: 1_000, W: 1_000, H: 1_000}, {X: 7, Y: 9, W: 500, H: 999}} {
		for first := -2; first <= 1_002; first++ {
			tellsEach(t, r, api.DRight, first, r.X, r.W, func(p api.Rect) (int, int) { return p.X, p.W })
			tellsEach(t, r, api.DDown, first, r.Y, r.H, func(p api.Rect) (int, int) { return p.Y, p.H })
		}
	}
}

// tellsEach counts what lies ahead of, at, and behind the one numbered first of length many that begin at start.
func tellsEach(t *testing.T, r api.Rect, dir, first, start, length int, side func(api.Rect) (int, int)) {
	t.Helper()
	var counts [3]int
	for n := range length {
		switch {
		case n < first:
			counts[0]++
		case n == first:
			counts[1]++
		default:
			counts[2]++
		}
	}
	if counts[0] == 0 || counts[1] == 0 || counts[2] == 0 {
		checkFalse(t, r, dir, first)
		return
	}
	a, border, b, ok := Cut(r, dir, first)
	if !ok {
		t.Errorf("Cut(%v, %d, %d): false", r, dir, first)
	}
	next := start
	for i, p := range []api.Rect{a, border, b} {
		if from, n := side(p); from != next || n != counts[i] {
			t.Errorf("Cut(%v, %d, %d): part %d is from %d, %d of them, want %d, %d", r, dir, first, i, from, n, next, counts[i])
		}
		next += counts[i]
		// The other side is that of r in all three.
		if dir == api.DRight && (p.Y != r.Y || p.H != r.H) || dir == api.DDown && (p.X != r.X || p.W != r.W) {
			t.Errorf("Cut(%v, %d, %d): part %d is %v", r, dir, first, i, p)
		}
	}
}

// 9.1: false of none, and of any dir but the two.
func TestCutFalse(t *testing.T) {
	nones(func(r api.Rect) {
		for _, dir := range dirs {
			for _, first := range edges {
				checkFalse(t, r, dir, first)
			}
		}
	})
	for _, dir := range dirs[2:] {
		for _, first := range edges {
			checkFalse(t, api.Rect{W: 9, H: 9}, dir, first)
			checkFalse(t, api.Rect{X: 1_000, Y: 1_000, W: 1_000, H: 1_000}, dir, first)
		}
	}
}

// 9.1: In, written out.
func TestInWrittenOut(t *testing.T) {
	r := api.Rect{X: 2, Y: 5, W: 3, H: 2}
	for _, x := range []struct {
		x, y int
		want bool
	}{
		{2, 5, true}, {3, 5, true}, {4, 5, true}, {2, 6, true}, {4, 6, true},
		{1, 5, false}, {5, 5, false}, {2, 4, false}, {2, 7, false}, {5, 2, false}, {0, 0, false}, {-2, -5, false},
		{math.MinInt, 5, false}, {2, math.MinInt, false}, {math.MaxInt, 5, false}, {2, math.MaxInt, false},
	} {
		if got := In(r, x.x, x.y); got != x.want {
			t.Errorf("In(%v, %d, %d): %v", r, x.x, x.y, got)
		}
	}
}

// 9.1: In, held against the rectangle's places gone through one by one; Area is how many they are.
func TestInAndArea(t *testing.T) {
	small(func(r api.Rect) {
		places := map[[2]int]int{}
		for x := range r.W {
			for y := range r.H {
				places[[2]int{r.X + x, r.Y + y}]++
			}
		}
		for x := r.X - 2; x < r.X+r.W+2; x++ {
			for y := r.Y - 2; y < r.Y+r.H+2; y++ {
				if In(r, x, y) != (places[[2]int{x, y}] == 1) {
					t.Errorf("In(%v, %d, %d)", r, x, y)
				}
			}
		}
		for _, x := range edges {
			for _, y := range edges {
				if In(r, x, y) != (places[[2]int{x, y}] == 1) {
					t.Errorf("In(%v, %d, %d)", r, x, y)
				}
			}
		}
		if Area(r) != len(places) {
			t.Errorf("Area(%v): %d", r, Area(r))
		}
	})
}

// 9.1: In and Area at the bounds of a rectangle's numbers.
func TestInAndAreaAtTheBounds(t *testing.T) {
	r := api.Rect{X: 1_000, Y: 1_000, W: 1_000, H: 1_000}
	for _, x := range []struct {
		x, y int
		want bool
	}{{1_000, 1_000, true}, {1_999, 1_999, true}, {999, 1_000, false}, {1_000, 999, false}, {2_000, 1_999, false}, {1_999, 2_000, false}} {
		if got := In(r, x.x, x.y); got != x.want {
			t.Errorf("In(%v, %d, %d): %v", r, x.x, x.y, got)
		}
	}
	for _, x := range []struct {
		r    api.Rect
		want int
	}{
		{api.Rect{}, 0}, {r, 1_000_000}, {api.Rect{W: 1_000, H: 1}, 1_000}, {api.Rect{W: 1, H: 1_000}, 1_000}, {api.Rect{W: 1_000}, 0}, {api.Rect{H: 1_000}, 0},
		{api.Rect{X: 4, Y: 5, W: 7, H: 8}, 56}, {api.Rect{W: 999, H: 1_000}, 999_000},
	} {
		if got := Area(x.r); got != x.want {
			t.Errorf("Area(%v): %d, want %d", x.r, got, x.want)
		}
	}
}

// 9.1: nothing is in none, and its area is 0.
func TestNone(t *testing.T) {
	nones(func(r api.Rect) {
		if Area(r) != 0 {
			t.Errorf("Area(%v): %d", r, Area(r))
		}
		for _, x := range append([]int{r.X, r.X + 1}, edges...) {
			for _, y := range append([]int{r.Y, r.Y + 1}, edges...) {
				if In(r, x, y) {
					t.Errorf("In(%v, %d, %d)", r, x, y)
				}
			}
		}
	})
}

// 9.2, W2: each place of the whole is in one of a, border and b, and no other place is in any of them.
func TestPartsAreTheWhole(t *testing.T) {
	for w := range 9 {
		for h := range 9 {
			for _, at := range [][2]int{{0, 0}, {3, 1}, {991, 7}, {990, 990}} {
				r := api.Rect{X: at[0], Y: at[1], W: w, H: h}
				for first := -1; first < 10; first++ {
					placesMeet(t, r, api.DRight, first)
					placesMeet(t, r, api.DDown, first)
				}
			}
		}
	}
	placesMeet(t, api.Rect{X: 100, Y: 40, W: 200, H: 90}, api.DRight, 77)
	placesMeet(t, api.Rect{X: 100, Y: 40, W: 200, H: 90}, api.DDown, 77)
}

func placesMeet(t *testing.T, r api.Rect, dir, first int) {
	t.Helper()
	a, border, b, ok := Cut(r, dir, first)
	if !ok {
		return
	}
	if Area(a)+Area(border)+Area(b) != Area(r) {
		t.Errorf("Cut(%v, %d, %d): areas %d, %d, %d", r, dir, first, Area(a), Area(border), Area(b))
	}
	for x := r.X - 2; x < r.X+r.W+2; x++ {
		for y := r.Y - 2; y < r.Y+r.H+2; y++ {
			n := 0
			for _, p := range []api.Rect{a, border, b} {
				if In(p, x, y) {
					n++
				}
			}
			if n > 1 || (n == 1) != In(r, x, y) {
				t.Errorf("Cut(%v, %d, %d): %d, %d is in %d of them", r, dir, first, x, y, n)
			}
		}
	}
}

// 9.2: the areas of all cuts of a great rectangle are that of the whole.
func TestAreasOfAllCuts(t *testing.T) {
	r := api.Rect{W: 1_000, H: 1_000}
	for first := 1; first <= 998; first++ {
		for _, dir := range []int{api.DRight, api.DDown} {
			a, border, b, ok := Cut(r, dir, first)
			if !ok || Area(a) != first*1_000 || Area(border) != 1_000 || Area(b) != (999-first)*1_000 {
				t.Errorf("Cut(%v, %d, %d): %v, %v, %v, %v", r, dir, first, a, border, b, ok)
			}
		}
	}
}

// 9.3: no call panics, whatever it is given.
func TestNoPanic(t *testing.T) {
	numbers := []int{math.MinInt, -1, 0, 1, 2, 3, 999, 1_000, 1_001, 1 << 62, math.MaxInt}
	for _, x := range numbers {
		for _, y := range numbers {
			for _, w := range numbers {
				for _, h := range numbers {
					r := api.Rect{X: x, Y: y, W: w, H: h}
					Area(r)
					for _, n := range numbers {
						In(r, n, x)
						In(r, y, n)
						Cut(r, api.DRight, n)
						Cut(r, api.DDown, n)
						Cut(r, n, 1)
					}
				}
			}
		}
	}
}
