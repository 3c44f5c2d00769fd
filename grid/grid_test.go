package grid

import (
	"math"
	"reflect"
	"slices"
	"testing"

	"polyptych/api"
)

var gap = api.Cell{R: 32, A: 0}

// edges are numbers at a small screen's ends, at the greatest screen's, and at those of int.
var edges = []int{
	math.MinInt, math.MinInt + 1, math.MinInt32, -1001, -7, -2, -1, 0, 1, 2, 3, 4, 5, 6,
	999, 1000, 1001, math.MaxInt32, 1 << 32, 1<<32 + 1, 1 << 62, math.MaxInt - 1, math.MaxInt,
}

// sizes are those of the screens that are tried.
var sizes = [][2]int{{1, 1}, {1, 4}, {4, 1}, {3, 2}, {2, 5}, {5, 4}}

// held is n held to least to most.
func held(n, least, most int) int {
	if n < least {
		return least
	}
	if n > most {
		return most
	}
	return n
}

// line is w cells of which no two are the same and none is blank; other starts make other lines.
func line(start, w int) []api.Cell {
	var out []api.Cell
	for x := range w {
		out = append(out, api.Cell{R: rune(1000 + start*50 + x), A: x%9*16 + 1})
	}
	return out
}

// gaps is a line of w blank cells.
func gaps(w int) []api.Cell {
	var out []api.Cell
	for range w {
		out = append(out, gap)
	}
	return out
}

// full is a screen on which every field has a value of its own, and of which Back has that many lines.
func full(w, h, back int) api.Grid {
	g := api.Grid{
		W: w, H: h, X: w - 1, Y: h - 1, Wrap: true, A: 33, Top: (h - 1) / 2, Bottom: h - 1,
		SX: (w - 1) / 2, SY: h / 2, SA: 1312, NoWrap: true, Hidden: true,
	}
	for y := range h {
		g.Rows = append(g.Rows, line(y, w))
	}
	for y := range back {
		g.Back = append(g.Back, line(100+y, 1+y%7))
	}
	return g
}

func copyOf(lines [][]api.Cell) [][]api.Cell {
	var out [][]api.Cell
	for _, r := range lines {
		out = append(out, slices.Clone(r))
	}
	return out
}

func sameText(a, b [][]api.Cell) bool {
	return slices.EqualFunc(a, b, slices.Equal[[]api.Cell])
}

// check holds two screens against each other without asking Same.
func check(t *testing.T, got, want api.Grid, call ...any) {
	t.Helper()
	if !sameText(got.Rows, want.Rows) {
		t.Fatalf("%v: rows %v, want %v", call, got.Rows, want.Rows)
	}
	if !sameText(got.Back, want.Back) {
		t.Fatalf("%v: back %v, want %v", call, got.Back, want.Back)
	}
	got.Rows, got.Back, want.Rows, want.Back = nil, nil, nil, nil
	if !reflect.DeepEqual(got, want) {
		t.Fatalf("%v: %+v, want %+v", call, got, want)
	}
}

// 5.1: w and h are held to 1 to 1,000, each by itself; all else is 0.
func TestNew(t *testing.T) {
	for _, w := range edges {
		for _, h := range []int{math.MinInt, -1, 0, 1, 2, 3} {
			checkNew(t, w, h)
			checkNew(t, h, w)
		}
	}
	checkNew(t, 80, 24)
	checkNew(t, 1000, 1000)
	checkNew(t, 1001, math.MaxInt)
}

func checkNew(t *testing.T, w, h int) {
	t.Helper()
	want := api.Grid{W: held(w, 1, 1000), H: held(h, 1, 1000)}
	want.Bottom = want.H - 1
	for range want.H {
		want.Rows = append(want.Rows, gaps(want.W))
	}
	check(t, New(w, h), want, "New", w, h)
}

// resized is Resize told cell by cell.
func resized(g api.Grid, w, h int) api.Grid {
	w, h = held(w, 1, 1000), held(h, 1, 1000)
	want := api.Grid{
		W: w, H: h, X: held(g.X, 0, w-1), Y: held(g.Y, 0, h-1), A: g.A, Bottom: h - 1,
		SX: held(g.SX, 0, w-1), SY: held(g.SY, 0, h-1), SA: g.SA, NoWrap: g.NoWrap, Hidden: g.Hidden, Back: g.Back,
	}
	for y := range h {
		r := gaps(w)
		for x := range w {
			if y < g.H && x < g.W {
				r[x] = g.Rows[y][x]
			}
		}
		want.Rows = append(want.Rows, r)
	}
	return want
}

// 5.1: rows are cut, or blank ones come; the cursors are held; Back's lines stay as wide as they were.
func TestResize(t *testing.T) {
	for _, size := range sizes {
		g := full(size[0], size[1], 9)
		for _, w := range edges {
			for _, h := range []int{math.MinInt, -1, 0, 1, 2, 3, 4, 5, 6, 9} {
				check(t, Resize(g, w, h), resized(g, w, h), "Resize", size, w, h)
				check(t, Resize(g, h, w), resized(g, h, w), "Resize", size, h, w)
			}
		}
	}
	check(t, Resize(full(1000, 1000, 50), 2000, 2000), resized(full(1000, 1000, 50), 1000, 1000), "Resize to the greatest")
}

// 5.1: what each field but the rows becomes, written out.
func TestResizeWrittenOut(t *testing.T) {
	g := full(5, 4, 2)
	g.X, g.Y, g.SX, g.SY, g.Top, g.Bottom = 4, 1, 1, 3, 1, 2
	for _, c := range []struct{ w, h, x, y, sx, sy int }{
		{5, 4, 4, 1, 1, 3}, {9, 9, 4, 1, 1, 3}, {4, 3, 3, 1, 1, 2}, {2, 4, 1, 1, 1, 3}, {5, 1, 4, 0, 1, 0}, {1, 2, 0, 1, 0, 1}, {0, 0, 0, 0, 0, 0},
	} {
		got := Resize(g, c.w, c.h)
		if got.X != c.x || got.Y != c.y || got.SX != c.sx || got.SY != c.sy {
			t.Errorf("%v: cursor %d, %d, saved %d, %d", c, got.X, got.Y, got.SX, got.SY)
		}
		if got.Top != 0 || got.Bottom != max(0, c.h-1) || got.Wrap {
			t.Errorf("%v: %d to %d, %v", c, got.Top, got.Bottom, got.Wrap)
		}
		if got.A != 33 || got.SA != 1312 || !got.NoWrap || !got.Hidden || !sameText(got.Back, g.Back) {
			t.Errorf("%v: %+v", c, got)
		}
	}
}

// scrolled is Up, or Down, told row by row.
func scrolled(g api.Grid, top, bottom, n int, up bool) api.Grid {
	top, bottom = held(top, 0, g.H-1), held(bottom, 0, g.H-1)
	want := g
	want.Rows, want.Back = nil, copyOf(g.Back)
	count := bottom - top + 1
	if count < 1 {
		want.Rows = copyOf(g.Rows)
		return want
	}
	n = held(n, 0, count)
	for y := range g.H {
		from := y - n
		if up {
			from = y + n
		}
		switch {
		case y < top || y > bottom:
			want.Rows = append(want.Rows, g.Rows[y])
		case from < top || from > bottom:
			want.Rows = append(want.Rows, gaps(g.W))
		default:
			want.Rows = append(want.Rows, g.Rows[from])
		}
	}
	for y := 0; up && top == 0 && y < n; y++ {
		want.Back = append(want.Back, g.Rows[y])
	}
	for len(want.Back) > 50 {
		want.Back = want.Back[1:]
	}
	return want
}

// 5.2: whatever top, bottom and n are, each held, and with Back empty, nearly full and full.
func TestScroll(t *testing.T) {
	for _, size := range sizes {
		for _, back := range []int{0, 1, 48, 50} {
			g := full(size[0], size[1], back)
			for _, top := range edges {
				for _, bottom := range edges {
					for _, n := range edges {
						check(t, Up(g, top, bottom, n), scrolled(g, top, bottom, n, true), "Up", size, back, top, bottom, n)
						check(t, Down(g, top, bottom, n), scrolled(g, top, bottom, n, false), "Down", size, back, top, bottom, n)
					}
				}
			}
		}
	}
}

// screen is one of rows two cells wide, each of one letter.
func screen(letters string) [][]api.Cell {
	var out [][]api.Cell
	for _, r := range letters {
		c := api.Cell{R: r}
		if r != ' ' {
			c.A = int(r)
		}
		out = append(out, []api.Cell{c, c})
	}
	return out
}

// 5.2: written out.
func TestScrollWrittenOut(t *testing.T) {
	for _, c := range []struct {
		top, bottom, n int
		up, back, down string
	}{
		{0, 4, 1, "bcde ", "za", " abcd"},
		{0, 4, 2, "cde  ", "zab", "  abc"},
		{0, 4, 5, "     ", "zabcde", "     "},
		{0, 4, 6, "     ", "zabcde", "     "},
		{0, 4, 0, "abcde", "z", "abcde"},
		{0, 4, -1, "abcde", "z", "abcde"},
		{0, 2, 1, "bc de", "za", " abde"},
		{0, 2, 9, "   de", "zabc", "   de"},
		{0, 0, 1, " bcde", "za", " bcde"},
		{1, 3, 1, "acd e", "z", "a bce"},
		{1, 3, 4, "a   e", "z", "a   e"},
		{1, 4, 2, "ade  ", "z", "a  bc"},
		{4, 4, 1, "abcd ", "z", "abcd "},
		{3, 2, 1, "abcde", "z", "abcde"},
		{4, 0, 9, "abcde", "z", "abcde"},
		{-3, -1, 1, " bcde", "za", " bcde"},
		{-1, 1, 1, "b cde", "za", " acde"},
		{3, 9, 1, "abce ", "z", "abc d"},
		{7, 9, 1, "abcd ", "z", "abcd "},
		{9, 7, 1, "abcd ", "z", "abcd "},
	} {
		g := New(2, 5)
		g.Rows, g.Back = screen("abcde"), screen("z")
		up, down := g, g
		up.Rows, up.Back, down.Rows = screen(c.up), screen(c.back), screen(c.down)
		check(t, Up(g, c.top, c.bottom, c.n), up, "Up", c)
		check(t, Down(g, c.top, c.bottom, c.n), down, "Down", c)
	}
}

// 5.2: top is held before it is asked whether it is 0: on one row it always is.
func TestOneRow(t *testing.T) {
	for _, top := range edges {
		for _, bottom := range edges {
			g := full(3, 1, 0)
			got := Up(g, top, bottom, 1)
			if !sameText(got.Back, g.Rows) || !sameText(got.Rows, [][]api.Cell{gaps(3)}) {
				t.Fatalf("%d to %d: %v, %v", top, bottom, got.Rows, got.Back)
			}
		}
	}
}

// 5.2: the last 50 lines stay, the oldest first, whether they go one by one or more than 50 at once.
func TestBackIsBounded(t *testing.T) {
	g := full(2, 1000, 50)
	for n, first := range map[int][]api.Cell{
		0: g.Back[0], 1: g.Back[1], 49: g.Back[49], 50: g.Rows[0], 51: g.Rows[1], 999: g.Rows[949], 1000: g.Rows[950], 1001: g.Rows[950],
	} {
		got := Up(g, 0, 999, n).Back
		if len(got) != 50 || !slices.Equal(got[0], first) {
			t.Errorf("%d: %d lines, the first %v, want %v", n, len(got), got[0], first)
		}
	}
	one := New(2, 1)
	for i := range 120 {
		one.Rows[0] = line(i, 2)
		one = Up(one, 0, 0, 1)
		if len(one.Back) != min(i+1, 50) || !slices.Equal(one.Back[len(one.Back)-1], line(i, 2)) || !slices.Equal(one.Back[0], line(max(0, i-49), 2)) {
			t.Fatalf("%d: %v", i, one.Back)
		}
	}
}

// 5.2, W3: in pieces or at once it is the same.
func TestPieces(t *testing.T) {
	g := full(3, 6, 47)
	for top := range 6 {
		for bottom := top; bottom < 6; bottom++ {
			for n := range bottom - top + 2 {
				for m := range bottom - top + 2 - n {
					check(t, Up(Up(g, top, bottom, n), top, bottom, m), Up(g, top, bottom, n+m), "Up", top, bottom, n, m)
					check(t, Down(Down(g, top, bottom, n), top, bottom, m), Down(g, top, bottom, n+m), "Down", top, bottom, n, m)
				}
			}
		}
	}
}

// turns answers g with one field after the other changed, by the fields that api.Grid has.
func turns(g api.Grid) []api.Grid {
	var out []api.Grid
	for i := range reflect.TypeFor[api.Grid]().NumField() {
		a := g
		switch f := reflect.ValueOf(&a).Elem().Field(i); f.Kind() {
		case reflect.Bool:
			f.SetBool(!f.Bool())
			out = append(out, a)
		case reflect.Int:
			f.SetInt(f.Int() + 1)
			out = append(out, a)
			f.SetInt(f.Int() - 1 + 1<<32)
			out = append(out, a)
		default:
			for _, lines := range turnedLines(f.Interface().([][]api.Cell)) {
				f.Set(reflect.ValueOf(lines))
				out = append(out, a)
			}
		}
	}
	return out
}

// turnedLines answers lines that are each unlike those given in one thing.
func turnedLines(lines [][]api.Cell) [][][]api.Cell {
	out := [][][]api.Cell{nil, lines[1:], lines[:len(lines)-1], append(copyOf(lines), nil), append(copyOf(lines), gaps(1))}
	for y := range lines {
		for _, r := range [][]api.Cell{nil, lines[y][:len(lines[y])-1], append(slices.Clone(lines[y]), gap)} {
			a := copyOf(lines)
			a[y] = r
			out = append(out, a)
		}
		for x := range lines[y] {
			a, b := copyOf(lines), copyOf(lines)
			a[y][x].R++
			b[y][x].A++
			out = append(out, a, b)
		}
	}
	return out
}

// 5.2: all fields, one by one, either way round.
func TestSame(t *testing.T) {
	for _, size := range sizes {
		g := full(size[0], size[1], 3)
		if !Same(g, full(size[0], size[1], 3)) {
			t.Error(size, "not the same")
		}
		for i, a := range turns(g) {
			if Same(a, g) || Same(g, a) {
				t.Errorf("%v, turn %d: the same", size, i)
			}
			if !Same(a, a) {
				t.Errorf("%v, turn %d: not itself", size, i)
			}
		}
	}
	if !Same(New(3, 2), New(3, 2)) || Same(New(3, 2), New(2, 3)) || !Same(api.Grid{}, api.Grid{}) || Same(api.Grid{}, New(1, 1)) {
		t.Error("new ones")
	}
}

// 5.2: rows and Back don't stand for each other, nor one number for another.
func TestSameTellsFieldsApart(t *testing.T) {
	a, b := full(2, 2, 2), full(2, 2, 2)
	b.Rows, b.Back = a.Back, a.Rows
	if Same(a, b) {
		t.Error("Rows and Back")
	}
	for i, c := range [][2]api.Grid{
		{{W: 1}, {H: 1}}, {{X: 1}, {Y: 1}}, {{X: 1}, {SX: 1}}, {{Y: 1}, {SY: 1}}, {{A: 1}, {SA: 1}}, {{Top: 1}, {Bottom: 1}},
		{{Wrap: true}, {NoWrap: true}}, {{NoWrap: true}, {Hidden: true}}, {{Hidden: true}, {Wrap: true}},
	} {
		if Same(c[0], c[1]) {
			t.Error(i)
		}
	}
}

// Rule 1: nil and an empty list mean the same.
func TestNilAndEmpty(t *testing.T) {
	a, b := New(2, 2), New(2, 2)
	a.Back, b.Back = nil, [][]api.Cell{}
	if !Same(a, b) || !Same(b, a) {
		t.Error("Back")
	}
	a.Back, b.Back = [][]api.Cell{nil}, [][]api.Cell{{}}
	if !Same(a, b) || !Same(b, a) {
		t.Error("a line of Back")
	}
	for _, g := range []api.Grid{a, b} {
		check(t, Up(g, 0, 1, 1), scrolled(a, 0, 1, 1, true), "Up")
		check(t, Down(g, 0, 1, 1), scrolled(a, 0, 1, 1, false), "Down")
		check(t, Resize(g, 3, 3), resized(a, 3, 3), "Resize")
	}
}

// whole tells what is wrong of a screen, nothing if it is whole.
func whole(g api.Grid) string {
	switch {
	case g.W < 1 || g.W > 1000 || g.H < 1 || g.H > 1000:
		return "size"
	case len(g.Rows) != g.H:
		return "rows"
	case slices.ContainsFunc(g.Rows, func(r []api.Cell) bool { return len(r) != g.W }):
		return "a row"
	case g.X < 0 || g.X >= g.W || g.Y < 0 || g.Y >= g.H:
		return "cursor"
	case g.SX < 0 || g.SX >= g.W || g.SY < 0 || g.SY >= g.H:
		return "saved cursor"
	case g.Top < 0 || g.Top > g.Bottom || g.Bottom >= g.H:
		return "what scrolls"
	case len(g.Back) > 50:
		return "back"
	}
	return ""
}

// 5.3: behind many calls, with the cursor put at the last place between them; each line of Back is as wide as it was on the screen.
func TestAlwaysWhole(t *testing.T) {
	some := []int{math.MinInt, -1, 0, 1, 2, 5, 7, math.MaxInt}
	g := New(3, 3)
	for _, a := range some {
		for _, b := range some {
			for _, c := range some {
				w, h := min(a, 9), min(b, 9)
				for i, call := range []func(api.Grid) api.Grid{
					func(g api.Grid) api.Grid { return Up(g, a, b, c) },
					func(g api.Grid) api.Grid { return Down(g, c, a, b) },
					func(g api.Grid) api.Grid { return Resize(g, w, h) },
					func(g api.Grid) api.Grid { return Up(g, 0, a, b) },
				} {
					width := g.W
					g = call(g)
					if fault := whole(g); fault != "" {
						t.Fatalf("%d %d %d, call %d: %s", a, b, c, i, fault)
					}
					if n := len(g.Back); i == 3 && b > 0 && len(g.Back[n-1]) != width {
						t.Fatalf("%d %d %d: a line of %d, want %d", a, b, c, len(g.Back[n-1]), width)
					}
					g.X, g.Y, g.SX, g.SY, g.Wrap = g.W-1, g.H-1, g.W-1, g.H-1, true
				}
			}
		}
	}
	for _, w := range edges {
		if fault := whole(New(w, 2)) + whole(New(2, w)) + whole(Resize(g, w, 2)) + whole(Resize(g, 2, w)); fault != "" {
			t.Fatal(w, fault)
		}
	}
}

// 5.3: what is answered stays whole when it is drawn on row by row: no two rows are one.
func TestRowsAreApart(t *testing.T) {
	for name, g := range map[string]api.Grid{
		"New": New(2, 4), "Resize": Resize(New(1, 1), 2, 4), "Up": Up(full(2, 4, 2), 0, 3, 2), "Up all": Up(full(2, 4, 2), 0, 3, 4),
		"Down": Down(full(2, 4, 2), 0, 3, 2), "Down all": Down(full(2, 4, 2), 0, 3, 4),
	} {
		lines := append(slices.Clone(g.Rows), g.Back...)
		for y, r := range lines {
			scrawl([][]api.Cell{r}, rune(y))
		}
		for y, r := range lines {
			for x, c := range r {
				if c.R != rune(y) {
					t.Errorf("%s: %d, %d is that of row %d", name, x, y, c.R)
				}
			}
		}
	}
}

// broken are grids that no call makes.
func broken() []api.Grid {
	out := []api.Grid{{}, {W: math.MaxInt, H: math.MaxInt}, {W: math.MinInt, H: math.MinInt, X: math.MinInt, SY: math.MinInt}}
	for _, h := range []int{math.MinInt, -1, 0, 1, 3, 9, math.MaxInt} {
		g := full(3, 3, 60)
		g.W, g.H, g.X, g.Y, g.SX, g.SY, g.Top, g.Bottom = h, h, h, h, h, h, h, h
		out = append(out, g)
		g.Rows = [][]api.Cell{nil, line(1, 2), line(2, 1200), {}}
		g.Back = [][]api.Cell{nil, line(3, 1200), {}}
		out = append(out, g)
		g.Rows, g.Back = [][]api.Cell{}, nil
		out = append(out, g)
	}
	return out
}

// 5.4: of a grid that is not whole nothing is promised but an end; what Resize makes of it is whole all the same.
func TestBrokenGrids(t *testing.T) {
	some := []int{math.MinInt, -1, 0, 1, 2, 3, 4, 9, math.MaxInt}
	for i, g := range broken() {
		for _, a := range some {
			for _, b := range some {
				for _, c := range some {
					Same(Up(g, a, b, c), Down(g, a, b, c))
				}
			}
			got := Resize(g, a, 2)
			if got.Back = nil; whole(got) != "" {
				t.Errorf("%d: %s", i, whole(got))
			}
		}
		for _, other := range broken() {
			Same(g, other)
		}
	}
}

// scrawl writes all over lines and their spare room.
func scrawl(lines [][]api.Cell, sign rune) {
	for _, r := range lines {
		r = r[:cap(r)]
		for x := range r {
			r[x] = api.Cell{R: sign, A: -9}
		}
	}
}

// scrawlAll writes all over an answer, the spare room of its lists, too.
func scrawlAll(g api.Grid) {
	for _, lines := range [][][]api.Cell{g.Rows, g.Back} {
		scrawl(lines, '#')
		lines = lines[:cap(lines)]
		for y := range lines {
			lines[y] = nil
		}
	}
}

// roomy is full with spare room behind every list, and all that room.
func roomy(w, h, back int) (g api.Grid, room [][][]api.Cell) {
	g = full(w, h, back)
	for _, lines := range []*[][]api.Cell{&g.Rows, &g.Back} {
		all := append(copyOf(*lines), line(200, 3), line(201, 3))
		for y := range all {
			all[y] = append(all[y], line(300+y, 2)...)
		}
		room = append(room, all)
		n := len(*lines)
		*lines = make([][]api.Cell, n, n+2)
		for y := range (*lines)[:n+2] {
			(*lines)[:n+2][y] = all[y][:len(all[y])-2]
		}
	}
	return g, room
}

func roomCopy(room [][][]api.Cell) [][][]api.Cell {
	return [][][]api.Cell{copyOf(room[0]), copyOf(room[1])}
}

// roomStays tells whether g and the room behind it are as they were.
func roomStays(g api.Grid, room, before [][][]api.Cell) bool {
	spare := [][][]api.Cell{g.Rows[:cap(g.Rows)], g.Back[:cap(g.Back)]}
	for i := range room {
		if !sameText(room[i], before[i]) {
			return false
		}
		for y, r := range spare[i] {
			if len(r) != len(room[i][y])-2 || &r[0] != &room[i][y][0] {
				return false
			}
		}
	}
	return true
}

// everyCall calls f with what each call that changes a screen makes of g.
func everyCall(g api.Grid, a, b, n int, f func(call string, got api.Grid)) {
	f("Resize", Resize(g, a, b))
	f("Up", Up(g, a, b, n))
	f("Down", Down(g, a, b, n))
}

// Rule 3: what is handed in is not changed, nor the spare room behind it, and no answer shares them.
func TestNothingShared(t *testing.T) {
	g, room := roomy(3, 4, 49)
	before := roomCopy(room)
	for a := -1; a <= 5; a++ {
		for b := -1; b <= 5; b++ {
			for n := -1; n <= 5; n++ {
				everyCall(g, a, b, n, func(call string, got api.Grid) {
					Same(g, got)
					scrawlAll(got)
					if !roomStays(g, room, before) {
						t.Fatal(call, a, b, n)
					}
				})
			}
		}
	}
}

// Rule 3: an answer stays as it is when what was handed in changes, or when another is answered.
func TestAnswerStays(t *testing.T) {
	g := full(2, 3, 4)
	var answers, kept []api.Grid
	keep := func(_ string, got api.Grid) {
		answers = append(answers, got)
		got.Rows, got.Back = copyOf(got.Rows), copyOf(got.Back)
		kept = append(kept, got)
	}
	for a := -1; a <= 4; a++ {
		for b := -1; b <= 4; b++ {
			keep("New", New(a, b))
			for n := -1; n <= 4; n++ {
				everyCall(g, a, b, n, keep)
			}
		}
	}
	scrawlAll(g)
	for i := range answers {
		check(t, answers[i], kept[i], i)
		scrawlAll(answers[i])
	}
	checkNew(t, 2, 2)
}
