package acts

import (
	"math"
	"reflect"
	"slices"
	"strings"
	"testing"

	"polyptych/api"
	"polyptych/esca"
	"polyptych/grid"
)

var gap = api.Cell{R: 32, A: 0}

// edges are numbers at a small screen's ends, at the greatest screen's, at those that escapes hold, and at those of int.
var edges = []int{
	math.MinInt, math.MinInt + 1, math.MinInt32, -65535, -25, -7, -2, -1, 0, 1, 2, 3, 4, 5, 6, 7, 8, 9, 25,
	999, 1000, 1001, 65535, math.MaxInt32, 1 << 32, 1<<32 + 1, 1<<32 + 2, 1 << 62, math.MaxInt - 1, math.MaxInt,
}

// pars are the lists of parameters that are tried.
func pars() [][]int {
	out := [][]int{nil, {}, {-1, -1}, {0, 0}, {1, 1}, {1, 2}, {2, 1}, {2, 3}, {3, 2}, {3, 3}, {2, 4}, {9, 9}, {-1, 2}, {2, -1}, {0, 3}, {2, 0}, {math.MaxInt, math.MaxInt}, {2, math.MaxInt}, {math.MinInt, math.MinInt}, {3, math.MinInt}, {1, 31, 44}, {22, 4, 7}, {25, 7}, {7, 25, 7}, {5, 25, 1000, 7}}
	for _, n := range edges {
		out = append(out, []int{n})
	}
	return out
}

// cells is w of them, of which no two are the same and none is blank; other starts make other lines.
func cells(start, w int) []api.Cell {
	var out []api.Cell
	for x := range w {
		out = append(out, api.Cell{R: rune(1000 + start*50 + x), A: x%9*16 + 1})
	}
	return out
}

func gaps(w int) []api.Cell {
	var out []api.Cell
	for range w {
		out = append(out, gap)
	}
	return out
}

// full is a screen on which no cell is blank, with the cursor and the part that scrolls as told; Back has that many lines.
func full(w, h, x, y, top, bottom, back int) api.Grid {
	g := api.Grid{W: w, H: h, X: x, Y: y, A: 1312, Top: top, Bottom: bottom, SX: w / 2, SY: (h - 1) / 2, SA: 35}
	for i := range h {
		g.Rows = append(g.Rows, cells(i, w))
	}
	for i := range back {
		g.Back = append(g.Back, cells(100+i, 1+i%7))
	}
	return g
}

// screens are small ones, with the cursor at each place, each part that scrolls, and each flag both ways.
func screens() []api.Grid {
	var out []api.Grid
	for _, size := range [][2]int{{1, 1}, {1, 3}, {3, 1}, {2, 2}, {3, 4}, {10, 2}} {
		w, h := size[0], size[1]
		for _, part := range parts(h) {
			for place := range w * h {
				g := full(w, h, place%w, place/w, part[0], part[1], []int{0, 1, 50}[place%3])
				g.NoWrap, g.Hidden = place%2 == 1, place%4 < 2
				other := g
				other.Wrap, other.NoWrap = g.X == w-1, !g.NoWrap
				out = append(out, g, other)
			}
		}
	}
	return out
}

// parts are the parts of a screen that may scroll: all of it, or two rows and more.
func parts(h int) [][2]int {
	out := [][2]int{{0, h - 1}}
	for top := range h {
		for bottom := top + 1; bottom < h; bottom++ {
			if top > 0 || bottom < h-1 {
				out = append(out, [2]int{top, bottom})
			}
		}
	}
	return out
}

func copyOf(lines [][]api.Cell) [][]api.Cell {
	var out [][]api.Cell
	for _, r := range lines {
		out = append(out, slices.Clone(r))
	}
	return out
}

func copyGrid(g api.Grid) api.Grid {
	g.Rows, g.Back = copyOf(g.Rows), copyOf(g.Back)
	return g
}

// differ tells what of got is not as want, without asking grid.Same.
func differ(got, want api.Grid) string {
	switch {
	case !slices.EqualFunc(got.Rows, want.Rows, slices.Equal[[]api.Cell]):
		return "rows"
	case !slices.EqualFunc(got.Back, want.Back, slices.Equal[[]api.Cell]):
		return "back"
	}
	a, b := reflect.ValueOf(got), reflect.ValueOf(want)
	for i := range a.NumField() {
		if a.Field(i).Kind() != reflect.Slice && !a.Field(i).Equal(b.Field(i)) {
			return a.Type().Field(i).Name
		}
	}
	return ""
}

// plain is a screen that the chapter's words are told on, cell by cell and row by row.
type plain struct{ api.Grid }

// number is parameter i, or other where it is none, or 0 or below.
func number(par []int, i, other int) int {
	if len(par) > i && par[i] > 0 {
		return par[i]
	}
	return other
}

// goTo goes one place at a time, so that no sum is asked for.
func (p *plain) goTo(x, y int) {
	p.X, p.Y, p.Wrap = 0, 0, false
	for p.X < x && p.X < p.W-1 {
		p.X++
	}
	for p.Y < y && p.Y < p.H-1 {
		p.Y++
	}
}

// walk takes as many steps of dx and dy as there are, at most n.
func (p *plain) walk(dx, dy, n int) {
	p.Wrap = false
	for ; n > 0; n-- {
		x, y := p.X+dx, p.Y+dy
		if x < 0 || y < 0 || x == p.W || y == p.H {
			return
		}
		p.X, p.Y = x, y
	}
}

// up takes row top out and lays a blank one behind bottom, as often as told, but no more often than there are rows.
func (p *plain) up(top, bottom, n int, keep bool) {
	for n = min(n, bottom-top+1); n > 0; n-- {
		if keep && top == 0 {
			p.Back = append(p.Back, p.Rows[0])
			p.Back = p.Back[max(0, len(p.Back)-50):]
		}
		p.Rows = slices.Delete(p.Rows, top, top+1)
		p.Rows = slices.Insert(p.Rows, bottom, gaps(p.W))
	}
}

func (p *plain) down(top, bottom, n int) {
	for n = min(n, bottom-top+1); n > 0; n-- {
		p.Rows = slices.Delete(p.Rows, bottom, bottom+1)
		p.Rows = slices.Insert(p.Rows, top, gaps(p.W))
	}
}

func (p *plain) line() {
	if p.Y == p.Bottom {
		p.up(p.Top, p.Bottom, 1, true)
	} else if p.Y+1 < p.H {
		p.Y++
	}
}

// wipe makes all places blank that a test of them asks for.
func (p *plain) wipe(asks func(x, y int) bool) {
	for y := range p.H {
		for x := range p.W {
			if asks(x, y) {
				p.Rows[y][x] = gap
			}
		}
	}
}

func (p *plain) print(r rune) {
	if p.Wrap {
		p.X = 0
		p.line()
	}
	p.Rows[p.Y][p.X] = api.Cell{R: r, A: p.A}
	p.Wrap = false
	if p.X < p.W-1 {
		p.X++
	} else if !p.NoWrap {
		p.Wrap = true
	}
}

func (p *plain) control(r rune) {
	switch r {
	case 8:
		p.walk(-1, 0, 1)
	case 9:
		p.walk(1, 0, 1)
		for p.X%8 != 0 && p.X < p.W-1 {
			p.X++
		}
	case 10, 11, 12:
		p.line()
		p.Wrap = false
	case 13:
		p.X, p.Wrap = 0, false
	}
}

func (p *plain) escape(r rune) {
	switch r {
	case 68:
		p.line()
		p.Wrap = false
	case 77:
		if p.Y == p.Top {
			p.down(p.Top, p.Bottom, 1)
			p.Wrap = false
		} else {
			p.walk(0, -1, 1)
		}
	case 69:
		p.X = 0
		p.line()
		p.Wrap = false
	case 55:
		p.SX, p.SY, p.SA = p.X, p.Y, p.A
	case 56:
		p.A = p.SA
		p.goTo(p.SX, p.SY)
	case 99:
		p.Grid = api.Grid{W: p.W, H: p.H, Bottom: p.H - 1, Rows: copyOf(p.Rows), Back: p.Back}
		p.wipe(func(x, y int) bool { return true })
	}
}

func (p *plain) csi(r rune, par []int) {
	n := number(par, 0, 1)
	switch r {
	case 65:
		p.walk(0, -1, n)
	case 66:
		p.walk(0, 1, n)
	case 67:
		p.walk(1, 0, n)
	case 68:
		p.walk(-1, 0, n)
	case 71:
		p.goTo(n-1, p.Y)
	case 100:
		p.goTo(p.X, n-1)
	case 72, 102:
		p.goTo(number(par, 1, 1)-1, n-1)
	case 74, 75:
		p.clear(number(par, 0, 0), r == 75)
	case 76, 77:
		if p.Y >= p.Top && p.Y <= p.Bottom {
			if r == 76 {
				p.down(p.Y, p.Bottom, n)
			} else {
				p.up(p.Y, p.Bottom, n, false)
			}
			p.X, p.Wrap = 0, false
		}
	case 64, 80, 88:
		p.edit(r, n)
	case 83:
		p.up(p.Top, p.Bottom, n, true)
	case 84:
		p.down(p.Top, p.Bottom, n)
	case 114:
		top, bottom := min(number(par, 0, 1)-1, p.H-1), min(number(par, 1, p.H)-1, p.H-1)
		if top < bottom {
			p.Top, p.Bottom = top, bottom
			p.goTo(0, 0)
		}
	case 109:
		p.A = looks(p.A, par)
	}
}

// clear asks of each place whether it stands ahead of the cursor, at it or behind it.
func (p *plain) clear(part int, row bool) {
	at := p.Y*p.W + p.X
	p.wipe(func(x, y int) bool {
		if row && y != p.Y {
			return false
		}
		i := y*p.W + x
		return part == 0 && i >= at || part == 1 && i <= at || part == 2
	})
}

func (p *plain) edit(r rune, n int) {
	row := p.Rows[p.Y]
	for i := 0; i < n && i < p.W; i++ {
		switch r {
		case 64:
			row = slices.Insert(row, p.X, gap)[:p.W]
		case 80:
			row = append(slices.Delete(row, p.X, p.X+1), gap)
		case 88:
			if p.X+i < p.W {
				row[p.X+i] = gap
			}
		}
	}
	p.Rows[p.Y] = row
}

// looks is what the parameters that are tried here do to the looks that are tried here, written out.
func looks(a int, par []int) int {
	if len(par) == 0 {
		return 0
	}
	for _, n := range par {
		switch n {
		case -1, 0:
			a = 0
		case 1, 4, 7:
			a |= map[int]int{1: 1, 4: 2, 7: 4}[n]
		case 22:
			a &^= 1
		case 31:
			a = a&^0xf0 | 0x20
		case 44:
			a = a&^0xf00 | 0x500
		}
	}
	return a
}

func (p *plain) priv(r rune, par []int) {
	for _, n := range par {
		switch {
		case n == 25 && r == 104:
			p.Hidden = false
		case n == 25 && r == 108:
			p.Hidden = true
		case n == 7 && r == 104:
			p.NoWrap = false
		case n == 7 && r == 108:
			p.NoWrap = true
		}
	}
}

// wanted is what the chapter says of g and a.
func wanted(g api.Grid, a api.Action) api.Grid {
	p := plain{copyGrid(g)}
	switch a.Kind {
	case 1:
		p.print(a.Rune)
	case 2:
		p.control(a.Rune)
	case 3:
		p.escape(a.Rune)
	case 4:
		p.csi(a.Rune, a.Par)
	case 5:
		p.priv(a.Rune, a.Par)
	}
	return p.Grid
}

// actions are all that are tried: each kind with each rune, and with parameters where they count.
func actions() []api.Action {
	var out []api.Action
	for kind := range 5 {
		for r := range rune(130) {
			out = append(out, api.Action{Kind: kind + 1, Rune: r})
		}
	}
	for _, r := range []rune("ABCDGdHfJKLM@PXSTrmhlz7c\b\n") {
		for _, par := range pars() {
			out = append(out, api.Action{Kind: api.ACsi, Rune: r, Par: par}, api.Action{Kind: api.APriv, Rune: r, Par: par})
		}
	}
	for _, r := range []rune{-1, math.MinInt32, 0xe9, 0x20ac, 0xfffd, 0x1f600, 0x10ffff, math.MaxInt32} {
		for kind := range 5 {
			out = append(out, api.Action{Kind: kind + 1, Rune: r})
		}
	}
	return out
}

// 6.1: every action at every place of small screens, held against the chapter told cell by cell.
func TestApply(t *testing.T) {
	all := actions()
	for _, g := range screens() {
		for _, a := range all {
			if what := differ(Apply(g, a), wanted(g, a)); what != "" {
				t.Fatalf("%+v, %+v: %s: %+v, want %+v", g, a, what, Apply(g, a), wanted(g, a))
			}
		}
	}
}

// 6.1: likewise where what comes before counts.
func TestApplyInARow(t *testing.T) {
	all := actions()
	for _, size := range [][2]int{{1, 1}, {2, 3}, {5, 4}, {20, 3}} {
		g := grid.New(size[0], size[1])
		next := uint32(7)
		for range 30000 {
			next = next*1664525 + 1013904223
			a := all[int(next>>8)%len(all)]
			if next%3 == 0 {
				a = api.Action{Kind: api.APrint, Rune: rune(97 + next>>8%26)}
			}
			got, want := Apply(g, a), wanted(g, a)
			if what := differ(got, want); what != "" {
				t.Fatalf("%+v, %+v: %s: %+v, want %+v", g, a, what, got, want)
			}
			checkWhole(t, got, size, a)
			g = got
		}
	}
}

// checkWhole: a screen stays one, whatever is asked.
func checkWhole(t *testing.T, g api.Grid, size [2]int, a api.Action) {
	t.Helper()
	ok := g.W == size[0] && g.H == size[1] && len(g.Rows) == g.H && len(g.Back) <= 50
	for _, r := range slices.Concat(g.Rows, g.Back) {
		ok = ok && len(r) == g.W
	}
	ok = ok && g.X >= 0 && g.X < g.W && g.Y >= 0 && g.Y < g.H && g.SX >= 0 && g.SX < g.W && g.SY >= 0 && g.SY < g.H
	ok = ok && g.Top >= 0 && g.Bottom < g.H && (g.Top < g.Bottom || g.H == 1 && g.Top == g.Bottom)
	if !ok {
		t.Fatalf("%+v: %+v", a, g)
	}
}

// show is lines of text, a bar between.
func show(lines [][]api.Cell) string {
	var out []string
	for _, r := range lines {
		s := ""
		for _, c := range r {
			s += string(c.R)
		}
		out = append(out, s)
	}
	return strings.Join(out, "|")
}

// fed is g behind what a text's bytes ask.
func fed(g api.Grid, s string) api.Grid {
	_, list := esca.Feed(api.Esc{}, []byte(s))
	for _, a := range list {
		g = Apply(g, a)
	}
	return g
}

// 6.1: signs, control bytes and escapes on a screen of 4 by 3, written out.
func TestWrittenOut(t *testing.T) {
	for _, c := range []struct {
		s, rows, back string
		x, y          int
		wrap          bool
	}{
		{"", "    |    |    ", "", 0, 0, false},
		{"abc", "abc |    |    ", "", 3, 0, false},
		{"abcd", "abcd|    |    ", "", 3, 0, true},
		{"abcde", "abcd|e   |    ", "", 1, 1, false},
		{"abcdefghijkl", "abcd|efgh|ijkl", "", 3, 2, true},
		{"abcdefghijklm", "efgh|ijkl|m   ", "abcd", 1, 2, false},
		{"abcd\x1b[?7le", "abcd|e   |    ", "", 1, 1, false},
		{"\x1b[?7labcdef", "abcf|    |    ", "", 3, 0, false},
		{"abcd\a\be", "abed|    |    ", "", 3, 0, false},
		{"abcd\t", "abcd|    |    ", "", 3, 0, false},
		{"ab\n\n\n\nc", "    |    |  c ", "ab  |    ", 3, 2, false},
		{"ab\rc", "cb  |    |    ", "", 1, 0, false},
		{"abcd\x0b\x0c", "abcd|    |    ", "", 3, 2, false},
		{"abcd\x1bD", "abcd|    |    ", "", 3, 1, false},
		{"abcd\x1bE", "abcd|    |    ", "", 0, 1, false},
		{"abcd\x1bM", "    |abcd|    ", "", 3, 0, false},
		{"abcd\x1b7\x1b[H\x1b8", "abcd|    |    ", "", 3, 0, false},
		{"abcd\x1b7", "abcd|    |    ", "", 3, 0, true},
		{"\x1b[3;3Hx\x1b8y", "y   |    |  x ", "", 1, 0, false},
		{"abcd\x1b=\x1b>\x1bZe", "abcd|e   |    ", "", 1, 1, false},
		{"abcd\x1b[A", "abcd|    |    ", "", 3, 0, false},
		{"abcd\x1b[0K", "abc |    |    ", "", 3, 0, true},
		{"abcd\x1b[3K\x1b[4J", "abcd|    |    ", "", 3, 0, true},
		{"abcd\x1b[@", "abc |    |    ", "", 3, 0, true},
		{"abcd\x1b[P", "abc |    |    ", "", 3, 0, true},
		{"abcd\x1b[X", "abc |    |    ", "", 3, 0, true},
		{"abcd\x1b[1m\x1b[?25l", "abcd|    |    ", "", 3, 0, true},
		{"abcd\x1b[L", "    |abcd|    ", "", 0, 0, false},
		{"abcd\x1b[M", "    |    |    ", "", 0, 0, false},
		{"abcd\x1b[2;3rabcd\x1b[L", "abcd|    |    ", "", 3, 0, true},
		{"abcd\x1b[1;2rabcd\x1b[3d\x1b[M", "abcd|    |    ", "", 3, 2, false},
		{"abcd\x1b[S", "    |    |    ", "abcd", 3, 0, true},
		{"abcd\x1b[9S", "    |    |    ", "abcd|    |    ", 3, 0, true},
		{"abcd\x1b[T", "    |abcd|    ", "", 3, 0, true},
		{"abcd\x1b[2;2r", "abcd|    |    ", "", 3, 0, true},
		{"abcd\x1b[9;9r", "abcd|    |    ", "", 3, 0, true},
		{"abcd\x1b[9r", "abcd|    |    ", "", 3, 0, true},
		{"abcd\x1b[;9r", "abcd|    |    ", "", 0, 0, false},
		{"abcd\x1b[2;9r\x1b[3dx\n", "abcd|x   |    ", "", 1, 2, false},
		{"\x1b[2;3Hx\x1b[2;3f\x1b[2;9H", "    |  x |    ", "", 3, 1, false},
		{"\x1b[3;;9Hx", "    |    |x   ", "", 1, 2, false},
	} {
		g := fed(grid.New(4, 3), c.s)
		if show(g.Rows) != c.rows || show(g.Back) != c.back || g.X != c.x || g.Y != c.y || g.Wrap != c.wrap {
			t.Errorf("%q: %q, back %q, at %d, %d, %v", c.s, show(g.Rows), show(g.Back), g.X, g.Y, g.Wrap)
		}
	}
}

// 6.1: the example.
func TestExample(t *testing.T) {
	g := Apply(grid.New(2, 1), api.Action{Kind: api.APrint, Rune: 65})
	if show(g.Rows) != "A " || g.Wrap || g.X != 1 || g.Y != 0 {
		t.Errorf("%+v", g)
	}
}

// 6.1: c is a new screen but for Back.
func TestReset(t *testing.T) {
	g := full(4, 3, 3, 2, 1, 2, 7)
	g.Wrap, g.NoWrap, g.Hidden = true, true, true
	want := grid.New(4, 3)
	want.Back = g.Back
	if what := differ(Apply(g, api.Action{Kind: api.AEscape, Rune: 'c'}), want); what != "" {
		t.Error(what)
	}
}

// 6.1: tab stops on a wide screen, from each column.
func TestTabs(t *testing.T) {
	for x := range 30 {
		g := full(30, 1, x, 0, 0, 0, 0)
		got := Apply(g, api.Action{Kind: api.AControl, Rune: 9})
		if want := []int{8, 16, 24, 29}[x/8]; got.X != want || got.Wrap {
			t.Errorf("%d: %d, want %d", x, got.X, want)
		}
	}
}

// 6.1: what is cleared is blank, whatever the attribute; signs have it.
func TestLooks(t *testing.T) {
	g := fed(grid.New(3, 2), "\x1b[7;33mab\x1b[44m\x1b[Kc\x1b[2;1H\x1b[md\x1b[Xe")
	want := [][]api.Cell{{{R: 'a', A: 68}, {R: 'b', A: 68}, {R: 'c', A: 1348}}, {{R: 'd'}, {R: 'e'}, gap}}
	if !slices.EqualFunc(g.Rows, want, slices.Equal[[]api.Cell]) || g.A != 0 {
		t.Errorf("%v, %d", g.Rows, g.A)
	}
	for _, s := range []string{"\x1b[2J", "\x1b[J", "\x1b[1J", "\x1b[K", "\x1b[2K", "\x1b[@", "\x1b[P", "\x1b[X", "\x1b[L", "\x1b[M", "\x1b[S", "\x1b[T", "\x1bc"} {
		one := fed(grid.New(1, 1), "\x1b[1;41mx"+s)
		if one.Rows[0][0] != gap {
			t.Errorf("%q: %v", s, one.Rows)
		}
	}
}

// 6.1: the greatest screen, and numbers beyond it.
func TestGreatScreen(t *testing.T) {
	g := grid.New(1000, 1000)
	for _, n := range []int{1000, 1001, 65535, 1<<20 + 1, math.MaxInt} {
		for _, c := range []struct {
			r    rune
			x, y int
		}{{'B', 0, 999}, {'C', 999, 0}, {'G', 999, 0}, {'d', 0, 999}, {'H', 999, 999}} {
			if got := Apply(g, api.Action{Kind: api.ACsi, Rune: c.r, Par: []int{n, n}}); got.X != c.x || got.Y != c.y {
				t.Errorf("%c %d: %d, %d", c.r, n, got.X, got.Y)
			}
		}
	}
	g.X, g.Y = 500, 500
	got := Apply(g, api.Action{Kind: api.ACsi, Rune: 'r', Par: []int{999, math.MaxInt}})
	if got.Top != 998 || got.Bottom != 999 || got.X != 0 || got.Y != 0 {
		t.Errorf("%d to %d", got.Top, got.Bottom)
	}
}

// 6.1: the last 50 lines that went stay.
func TestBack(t *testing.T) {
	g := grid.New(3, 2)
	for i := range 120 {
		g = fed(g, "\r"+string(rune(0x4e00+i))+"\n")
	}
	if len(g.Back) != 50 || g.Back[49][0].R != 0x4e00+118 || g.Back[0][0].R != 0x4e00+69 {
		t.Errorf("%d lines: %q", len(g.Back), show(g.Back))
	}
}

// texts are bytes of all sorts: ends of escapes, broken runes, strings, and numbers that are too great.
func texts() []string {
	return []string{
		"ab\x1b[2;2Hcd\x1b[1;31me\x1b[Kf\r\n\tg\x1b7\x1b[Sh\x1b8i\x1bMj",
		"\xe2\x82\xac\xe2\x82\x1b[2J\xf0\x9f\x98\x80\xff\xc3\x1b]0;title\x07x\x1bP1\x1b\\y",
		"\x1b[?25l\x1b[?7labcdefgh\x1b[?7;25hij\x1b[2;3r\x1b[99999999999B\n\n\x1b[Lk\x1b[9Ml",
		"\x1b[\x1b[3\x1b[;;;Hm\x1b[1:2An\x1b[>1co\x1b#8p\x1bcq\x9b\x9c\u0085r",
		"abcd\b\b\x1b[2@\x1b[P\x1b[X\x1b[1J\x1b[T\x1b[2;99r\x1bD\x1bE\x1bZ\x1b[0;0;0m",
	}
}

// 6.2, W3: fed in pieces, or at once, it is the same, wherever a piece ends.
func TestPieces(t *testing.T) {
	for _, s := range texts() {
		for _, size := range [][2]int{{1, 1}, {4, 3}, {9, 2}} {
			start := grid.New(size[0], size[1])
			whole := fed(start, s)
			for cut := range len(s) + 1 {
				at, list := esca.Feed(api.Esc{}, []byte(s[:cut]))
				g := start
				for _, a := range list {
					g = Apply(g, a)
				}
				_, list = esca.Feed(at, []byte(s[cut:]))
				for _, a := range list {
					g = Apply(g, a)
				}
				if what := differ(g, whole); what != "" {
					t.Fatalf("%q cut at %d: %s", s, cut, what)
				}
			}
		}
	}
}

// 6.2, W3: what is not known changes nothing.
func TestUnknown(t *testing.T) {
	known := map[int]string{
		api.AControl: "\b\t\n\x0b\x0c\r", api.AEscape: "DME78c", api.ACsi: "ABCDGdHfJKLM@PXSTrm", api.APriv: "hl",
	}
	g := full(4, 3, 3, 1, 0, 2, 5)
	g.Wrap = true
	for _, kind := range []int{math.MinInt, -1, 0, 2, 3, 4, 5, 6, 7, 1 << 32, 1<<32 + 1, math.MaxInt} {
		for r := rune(-300); r < 1000; r++ {
			if strings.ContainsRune(known[kind], r) {
				continue
			}
			for _, par := range [][]int{nil, {1}, {7, 25}} {
				if what := differ(Apply(g, api.Action{Kind: kind, Rune: r, Par: par}), g); what != "" {
					t.Fatalf("%d, %d, %v: %s", kind, r, par, what)
				}
			}
		}
	}
	for _, n := range edges {
		if n == 7 || n == 25 {
			continue
		}
		for _, r := range "hl" {
			if what := differ(Apply(g, api.Action{Kind: api.APriv, Rune: r, Par: []int{n}}), g); what != "" {
				t.Fatalf("%c %d: %s", r, n, what)
			}
		}
	}
}

// Rule 1: nil and an empty list mean the same.
func TestNoneAndEmpty(t *testing.T) {
	for _, a := range actions() {
		if len(a.Par) > 0 {
			continue
		}
		g := full(3, 2, 1, 1, 0, 1, 0)
		empty, list := g, a
		empty.Back, list.Par = [][]api.Cell{}, []int{}
		if what := differ(Apply(g, a), Apply(empty, list)); what != "" {
			t.Fatalf("%+v: %s", a, what)
		}
	}
}

// roomy is lines with spare room behind each of them, and behind their list.
func roomy(lines [][]api.Cell) [][]api.Cell {
	out := make([][]api.Cell, len(lines), len(lines)+3)
	for y, r := range lines {
		out[y] = append(make([]api.Cell, 0, len(r)+3), r...)
	}
	return out
}

// spoil changes all that lines can reach, spare room too.
func spoil(lines [][]api.Cell) {
	lines = lines[:cap(lines)]
	for y, r := range lines {
		r = r[:cap(r)]
		for x := range r {
			r[x] = api.Cell{R: 1, A: 1}
		}
		lines[y] = nil
	}
}

// all is lines with their spare room.
func all(lines [][]api.Cell) [][]api.Cell {
	var out [][]api.Cell
	for _, r := range lines[:cap(lines)] {
		out = append(out, slices.Clone(r[:cap(r)]))
	}
	return out
}

// Rule 3: what is handed in stays as it was, its spare room too, and nothing of it is in the answer, whoever is changed later.
func TestNothingIsShared(t *testing.T) {
	for _, a := range actions() {
		for _, y := range []int{0, 1, 2} {
			g := full(3, 3, y, y, 0, 2, 49)
			g.Rows, g.Back = roomy(g.Rows), roomy(g.Back)
			rows, back := all(g.Rows), all(g.Back)
			par := append(make([]int, 0, len(a.Par)+3), a.Par...)
			got := Apply(g, api.Action{Kind: a.Kind, Rune: a.Rune, Par: par})
			if !reflect.DeepEqual(rows, all(g.Rows)) || !reflect.DeepEqual(back, all(g.Back)) {
				t.Fatalf("%+v: the screen is changed", a)
			}
			if !slices.Equal(par, a.Par) || !slices.Equal(par[:cap(par)][len(par):], make([]int, cap(par)-len(par))) {
				t.Fatalf("%+v: the parameters are changed", a)
			}
			want := copyGrid(got)
			spoil(g.Rows)
			spoil(g.Back)
			if what := differ(got, want); what != "" {
				t.Fatalf("%+v: %s of the answer hang on the screen", a, what)
			}
			checkApart(t, got, a)
		}
	}
}

// checkApart: no two lines of an answer share memory, not even by their spare room.
func checkApart(t *testing.T, g api.Grid, a api.Action) {
	t.Helper()
	seen := map[*api.Cell]int{}
	for i, r := range slices.Concat(g.Rows, g.Back) {
		r = r[:cap(r)]
		for x := range r {
			if j, ok := seen[&r[x]]; ok && i != j {
				t.Fatalf("%+v: lines %d and %d share a cell", a, i, j)
			}
			seen[&r[x]] = i
		}
	}
}

// broken are grids that no call makes.
func broken() []api.Grid {
	out := []api.Grid{{}, {W: 3, H: 3}, {Rows: [][]api.Cell{nil, cells(0, 2), nil}}, {W: 2, H: 2, Bottom: 1, Rows: [][]api.Cell{cells(0, 9), nil, cells(0, 1)}, Back: [][]api.Cell{nil}}}
	for _, n := range edges {
		for _, m := range []int{math.MinInt, -1, 0, 1, 2, 1001, math.MaxInt} {
			for _, g := range []api.Grid{
				{W: n, H: m, Bottom: m}, {W: 3, H: 3, X: n, Y: m, Bottom: 2}, {W: 3, H: 3, X: m, Y: 1, Top: n, Bottom: m},
				{W: n, H: 3, X: n, Y: m, Top: m, Bottom: n}, {W: 3, H: m, Y: n, Top: n, Bottom: n, SX: n, SY: m, SA: n, A: n}, {W: 3, H: 3, SX: n, SY: m, Y: 1, Top: 1},
			} {
				g.Rows, g.Back = [][]api.Cell{cells(0, 3), nil, cells(2, 5)}, [][]api.Cell{nil, cells(9, 1)}
				g.Wrap = n%2 == 0
				out = append(out, g)
			}
		}
	}
	return out
}

// 6.3: no call panics, whatever the grid and the action.
func TestNoPanic(t *testing.T) {
	var some []api.Action
	for _, a := range actions() {
		if len(a.Par) != 1 || slices.Contains([]int{math.MinInt, -1, 2, 1000, math.MaxInt}, a.Par[0]) {
			some = append(some, a)
		}
	}
	for _, g := range broken() {
		if g.W > 3 || g.H > 3 {
			g.Back = nil
		}
		for _, a := range some {
			if a.Kind == api.AEscape && a.Rune == 'c' && g.W > 1000 && g.H > 1000 {
				continue
			}
			Apply(g, a)
		}
	}
	Apply(api.Grid{W: math.MaxInt, H: math.MaxInt}, api.Action{Kind: api.AEscape, Rune: 'c'})
}
