package pane

import (
	"math"
	"reflect"
	"slices"
	"strings"
	"testing"

	"polyptych/acts"
	"polyptych/api"
	"polyptych/esca"
	"polyptych/grid"
)

// edges are numbers at a screen's least and greatest sides, and at the ends of int.
var edges = []int{math.MinInt, math.MinInt + 1, -1000, -1, 0, 1, 2, 5, 80, 999, 1000, 1001, math.MaxInt - 1, math.MaxInt}

// texts are bytes of every kind that a pane is fed.
func texts() []string {
	every := ""
	for b := range 256 {
		every += string([]byte{byte(b)})
	}
	return []string{
		"", "ab", "a\r\nb\tc\bd\x07\x0b\x0c", "héllo €uro 😀!", "\xc3\xa9\xe2\x82\xac\xf0\x9f\x98\x80",
		"\xc3a\xe2\x82b\xf0\x9f\x98c\xff\xfe\xed\xa0\x80\xc0\xaf\xf5", "\xe2\x82\x1b[2;2H\xacx", "\x80\x9b2J\xc2\x9bK",
		"abcdefghijklmnopqrstuvwxyz\r\n0123456789\x1b[2;3HX\x1b[K\x1b[1;31;44mred\x1b[m",
		"\x1b7a\x1b8b\x1bM\x1bD\x1bE\x1b[2;4r\n\n\n\nq\x1b[S\x1b[2T\x1b[L\x1b[2M\x1b[@\x1b[P\x1b[3X",
		"\x1b]0;a title\x07b\x1bP1$r\x1b\\c\x1b_d\x1b\x1b\\e\x1b^f\x18g\x1bXh\x1ai",
		"\x1b[?25l\x1b[?7labcdefghij\x1b[?7;25hk", "\x1b[?2?5h\x1b[1?h\x1b[ q\x1b[>c\x1b[!p\x1b[=1;2z",
		"\x1b[1;2;3;4;5;6;7;8;9;10;11;12;13;14;15;16;17;18;31mx\x1b[99999999999999999999Cy\x1b[;;H",
		"\x1b(Ba\x1b#8b\x1b%Gc\x1b\x1b[Dd\x1b\x18e\x1b\x7ff\x1b\nAg", "\x1b[1\x1b[2J\x1b[3\x18J\x1b[4\nC",
		"x\x1bcy\x1b[2J\x1b[J\x1b[1J\x1b[1K", every, strings.Repeat("line\n\r", 60),
		"ends in a rune \xf0\x9f", "ends in an escape \x1b", "ends in a sequence \x1b[?1;22;3", "ends in one that is skipped \x1b[1;>5",
		"ends in a string \x1b]2;t", "ends at a string's end \x1b]2;t\x1b", "ends in a set \x1b(",
	}
}

// stepped is what the chapter's words ask of Feed, told without it.
func stepped(p api.Pane, b string) api.Pane {
	for i := range len(b) {
		var actions []api.Action
		p.Esc, actions = esca.Step(p.Esc, b[i])
		for _, a := range actions {
			p.Grid = acts.Apply(p.Grid, a)
		}
	}
	return p
}

// plain makes nil of every empty list, so that equal ones are deeply equal.
func plain(p api.Pane) api.Pane {
	p.Esc.Par = append([]int(nil), p.Esc.Par...)
	p.Grid.Rows, p.Grid.Back = plainLines(p.Grid.Rows), plainLines(p.Grid.Back)
	return p
}

func plainLines(lines [][]api.Cell) [][]api.Cell {
	var out [][]api.Cell
	for _, r := range lines {
		out = append(out, append([]api.Cell(nil), r...))
	}
	return out
}

// equal tells whether a and b are the same, without asking Same.
func equal(a, b api.Pane) bool {
	return reflect.DeepEqual(plain(a), plain(b))
}

func show(lines [][]api.Cell) string {
	var out []string
	for _, r := range lines {
		s := ""
		for _, c := range r {
			s += string(c.R)
		}
		out = append(out, s)
	}
	return strings.Join(out, "|")
}

// 7.1: New.
func TestNew(t *testing.T) {
	for _, w := range edges {
		for _, h := range edges {
			if min(w, h) > 100 && w != h {
				continue
			}
			p := New(w, h)
			if !grid.Same(p.Grid, grid.New(w, h)) || !reflect.DeepEqual(plain(p).Esc, api.Esc{}) {
				t.Errorf("New(%d, %d): %d by %d, %v", w, h, p.Grid.W, p.Grid.H, p.Esc)
			}
		}
	}
	p := New(3, 2)
	if show(p.Grid.Rows) != "   |   " || p.Grid.W != 3 || p.Grid.H != 2 || p.Grid.Bottom != 1 || len(p.Grid.Back) != 0 {
		t.Error(p)
	}
}

// 7.1: Feed is each byte's actions, one behind the other.
func TestFeed(t *testing.T) {
	for _, size := range [][2]int{{1, 1}, {2, 3}, {5, 4}, {11, 1}, {40, 12}} {
		for _, first := range []string{"", "aé\x1b[4;3H\x1b[7m", "\x1b[?1;2", "\xe2\x82"} {
			for i, s := range texts() {
				p := stepped(New(size[0], size[1]), first)
				if got, want := Feed(p, []byte(s)), stepped(p, s); !equal(got, want) {
					t.Errorf("%v, %q, text %d: %v %q, want %v %q", size, first, i, got.Esc, show(got.Grid.Rows), want.Esc, show(want.Grid.Rows))
				}
			}
		}
	}
}

// 7.1: Feed, written out.
func TestWrittenOut(t *testing.T) {
	for _, x := range []struct {
		fed, rows string
		x, y      int
		esc       api.Esc
	}{
		{"ab", "ab  |    ", 2, 0, api.Esc{}},
		{"", "    |    ", 0, 0, api.Esc{}},
		{"\x00\x01\x7f", "    |    ", 0, 0, api.Esc{}},
		{"a\r\nb", "a   |b   ", 1, 1, api.Esc{}},
		{"é€", "é€  |    ", 2, 0, api.Esc{}},
		{"a\xe2\x82", "a   |    ", 1, 0, api.Esc{Utf: api.Utf{Need: 1, Min: 0x800, Got: 0x82}}},
		{"a\xe2\x82b", "a\ufffdb |    ", 3, 0, api.Esc{}},
		{"a\xe2\x82\r", "a\ufffd  |    ", 0, 0, api.Esc{}},
		{"a\x1b", "a   |    ", 1, 0, api.Esc{Mode: api.EEscape}},
		{"a\x1b[", "a   |    ", 1, 0, api.Esc{Mode: api.ECsi, Num: -1}},
		{"a\x1b[?7;2", "a   |    ", 1, 0, api.Esc{Mode: api.ECsi, Par: []int{7}, Num: 2, Priv: true}},
		{"a\x1b[;>", "a   |    ", 1, 0, api.Esc{Mode: api.ECsi, Par: []int{-1}, Num: -1, Skip: true}},
		{"a\x1b]b", "a   |    ", 1, 0, api.Esc{Mode: api.EString}},
		{"a\x1b]b\x1b", "a   |    ", 1, 0, api.Esc{Mode: api.EEnd}},
		{"a\x1b(", "a   |    ", 1, 0, api.Esc{Mode: api.ESkip}},
		{"a\x1b[2;3Hb", "a   |  b ", 3, 1, api.Esc{}},
		{"abcdefghi", "efgh|i   ", 1, 1, api.Esc{}},
	} {
		p := Feed(New(4, 2), []byte(x.fed))
		if show(p.Grid.Rows) != x.rows || p.Grid.X != x.x || p.Grid.Y != x.y || !reflect.DeepEqual(plain(p).Esc, x.esc) {
			t.Errorf("%q: %q at %d, %d, %v", x.fed, show(p.Grid.Rows), p.Grid.X, p.Grid.Y, p.Esc)
		}
	}
}

// 7.1: what goes at the top comes to Back, of which 50 lines stay, whatever the pieces are.
func TestBack(t *testing.T) {
	p := New(3, 2)
	for i := range 60 {
		p = Feed(p, []byte{byte('A' + i%26), '\r', '\n'})
	}
	// 60 lines and the one that the cursor is in: 59 have gone, the first 9 of them for good.
	if len(p.Grid.Back) != api.MaxBack || p.Grid.Back[0][0].R != 'A'+9 || p.Grid.Back[49][0].R != 'A'+58%26 || show(p.Grid.Rows) != "H  |   " {
		t.Error(len(p.Grid.Back), show(p.Grid.Back[:1]), show(p.Grid.Rows))
	}
}

// 7.1: MaxData bounds ops, and no pane: all bytes are fed, however many there are.
func TestManyBytes(t *testing.T) {
	s := strings.Repeat("\x1b[2K\r0123456789", 700) + "\rthe end"
	got := Feed(New(20, 2), []byte(s))
	if show(got.Grid.Rows[:1]) != "the end789          " || !equal(got, stepped(New(20, 2), s)) {
		t.Error(show(got.Grid.Rows))
	}
}

// 7.1: Resize is of the Grid; what was begun goes on.
func TestResize(t *testing.T) {
	for i, s := range texts() {
		p := Feed(New(7, 5), []byte(s))
		for _, size := range [][2]int{{7, 5}, {1, 1}, {3, 9}, {12, 2}, {0, -1}, {math.MinInt, 4}, {4, math.MinInt}, {1001, 1}, {2, math.MaxInt}} {
			q := Resize(p, size[0], size[1])
			if want := (api.Pane{Esc: p.Esc, Grid: grid.Resize(p.Grid, size[0], size[1])}); !equal(q, want) {
				t.Error("text", i, size, q.Esc, q.Grid.W, q.Grid.H)
			}
		}
	}
	p := Feed(Resize(Feed(New(4, 2), []byte("abcd\x1b[3")), 2, 1), []byte("1mx"))
	if show(p.Grid.Rows) != "ax" || p.Grid.A == 0 || p.Grid.Rows[0][1].A != p.Grid.A {
		t.Error(show(p.Grid.Rows), p.Grid.A)
	}
	p = Feed(Resize(Feed(New(4, 2), []byte("\xc3")), 3, 3), []byte("\xa9"))
	if show(p.Grid.Rows) != "é  |   |   " {
		t.Error(show(p.Grid.Rows))
	}
}

// rich is a pane of which no field has its zero value.
func rich() api.Pane {
	line := func(r rune) []api.Cell { return []api.Cell{{R: r, A: 1}, {R: r + 1, A: 2}} }
	return api.Pane{
		Esc: api.Esc{Mode: api.ECsi, Utf: api.Utf{Need: 1, Min: 2, Got: 3}, Par: []int{4, 5}, Num: 6, Priv: true, Skip: true},
		Grid: api.Grid{W: 2, H: 2, X: 1, Y: 1, Wrap: true, A: 3, Top: 1, Bottom: 1, SX: 1, SY: 1, SA: 7, NoWrap: true, Hidden: true,
			Rows: [][]api.Cell{line('a'), line('c')}, Back: [][]api.Cell{line('e')}},
	}
}

// turns are panes that differ from rich in one thing each.
func turns() []func(p *api.Pane) {
	return []func(p *api.Pane){
		func(p *api.Pane) { p.Esc.Mode = api.EEscape }, func(p *api.Pane) { p.Esc.Utf.Need++ }, func(p *api.Pane) { p.Esc.Utf.Min++ },
		func(p *api.Pane) { p.Esc.Utf.Got++ }, func(p *api.Pane) { p.Esc.Par[0]++ }, func(p *api.Pane) { p.Esc.Par[1]++ },
		func(p *api.Pane) { p.Esc.Par = p.Esc.Par[:1] }, func(p *api.Pane) { p.Esc.Par = append(p.Esc.Par, 0) }, func(p *api.Pane) { p.Esc.Par = nil },
		func(p *api.Pane) { p.Esc.Num++ }, func(p *api.Pane) { p.Esc.Priv = false }, func(p *api.Pane) { p.Esc.Skip = false },
		func(p *api.Pane) { p.Grid.W++ }, func(p *api.Pane) { p.Grid.H++ }, func(p *api.Pane) { p.Grid.X-- }, func(p *api.Pane) { p.Grid.Y-- },
		func(p *api.Pane) { p.Grid.Wrap = false }, func(p *api.Pane) { p.Grid.A++ }, func(p *api.Pane) { p.Grid.Top-- }, func(p *api.Pane) { p.Grid.Bottom++ },
		func(p *api.Pane) { p.Grid.SX-- }, func(p *api.Pane) { p.Grid.SY-- }, func(p *api.Pane) { p.Grid.SA++ },
		func(p *api.Pane) { p.Grid.NoWrap = false }, func(p *api.Pane) { p.Grid.Hidden = false },
		func(p *api.Pane) { p.Grid.Rows[1][1].R++ }, func(p *api.Pane) { p.Grid.Rows[0][0].A++ }, func(p *api.Pane) { p.Grid.Rows = p.Grid.Rows[:1] },
		func(p *api.Pane) { p.Grid.Back[0][1].R++ }, func(p *api.Pane) { p.Grid.Back[0][0].A++ }, func(p *api.Pane) { p.Grid.Back = nil },
	}
}

// 7.1: Same asks every field, and nil is an empty list.
func TestSame(t *testing.T) {
	if !Same(rich(), rich()) || !Same(api.Pane{}, api.Pane{}) || Same(rich(), api.Pane{}) {
		t.Error("the same one")
	}
	for i, turn := range turns() {
		p := rich()
		turn(&p)
		if Same(p, rich()) || Same(rich(), p) || !Same(p, p) {
			t.Error("turn", i)
		}
	}
	nils := api.Pane{Grid: api.Grid{Rows: [][]api.Cell{nil}}}
	empty := api.Pane{Esc: api.Esc{Par: []int{}}, Grid: api.Grid{Rows: [][]api.Cell{{}}, Back: [][]api.Cell{}}}
	if !Same(nils, empty) || !Same(empty, nils) {
		t.Error("nil and empty")
	}
	a, b := Feed(New(5, 2), []byte("ab")), Feed(New(5, 2), []byte("ac"))
	if Same(a, b) || !Same(Feed(a, []byte("\bc")), b) {
		t.Error("fed")
	}
}

// 7.2, W3: three pieces, cut at every place, and bytes one by one are the same as all at once.
func TestPieces(t *testing.T) {
	for i, s := range texts() {
		for _, size := range [][2]int{{1, 2}, {6, 3}} {
			fresh := New(size[0], size[1])
			want := Feed(fresh, []byte(s))
			alone := fresh
			for k := range len(s) + 1 {
				if got := Feed(Feed(Feed(fresh, []byte(s[:k/2])), []byte(s[k/2:k])), []byte(s[k:])); !equal(got, want) || !Same(got, want) {
					t.Error("text", i, size, "cut at", k/2, k)
				}
				if k < len(s) {
					alone = Feed(Feed(alone, nil), []byte{s[k]})
				}
			}
			if !equal(alone, want) {
				t.Error("text", i, size, "byte by byte")
			}
		}
	}
}

// 7.2: any two bytes behind any beginning, in one piece and in two.
func TestAnyBytes(t *testing.T) {
	for _, begun := range []string{"", "\x1b", "\x1b[", "\x1b[?2", "\x1b[3;", "\x1b]", "\x1b]\x1b", "\x1b(", "\xc3", "\xe2\x82", "\xf0\x9f\x98"} {
		p := Feed(New(2, 2), []byte("abc"+begun))
		for b := range 256 {
			first := Feed(p, []byte{byte(b)})
			if !equal(first, stepped(p, string([]byte{byte(b)}))) {
				t.Errorf("%q, %d", begun, b)
			}
			for c := range 256 {
				if !Same(Feed(p, []byte{byte(b), byte(c)}), Feed(first, []byte{byte(c)})) {
					t.Errorf("%q, %d, %d", begun, b, c)
				}
			}
		}
	}
}

// Rule 1: nil bytes and no bytes are the same: nothing is fed.
func TestNothingFed(t *testing.T) {
	for _, p := range []api.Pane{New(3, 2), rich(), Feed(New(3, 2), []byte("ab\x1b[?1;2")), {}} {
		if !equal(Feed(p, nil), p) || !equal(Feed(p, []byte{}), p) {
			t.Error(p)
		}
	}
	nils, empty := New(2, 1), New(2, 1)
	empty.Esc.Par, empty.Grid.Back = []int{}, [][]api.Cell{}
	if !equal(Feed(nils, []byte("abc\x1b[1;2")), Feed(empty, []byte("abc\x1b[1;2"))) || !equal(Resize(nils, 3, 3), Resize(empty, 3, 3)) {
		t.Error("nil and empty")
	}
}

// roomy is p with spare room behind each of its lists, filled with marks.
func roomy(p api.Pane) api.Pane {
	p.Esc.Par = withRoom(p.Esc.Par, 77)
	p.Grid.Rows, p.Grid.Back = roomyLines(p.Grid.Rows), roomyLines(p.Grid.Back)
	return p
}

func roomyLines(lines [][]api.Cell) [][]api.Cell {
	var out [][]api.Cell
	for _, r := range lines {
		out = append(out, withRoom(r, api.Cell{R: '#', A: 9}))
	}
	return withRoom(out, []api.Cell{{R: '%', A: 8}})
}

func withRoom[T any](list []T, mark T) []T {
	out := slices.Clone(list)
	for range 4 {
		out = append(out, mark)
	}
	return out[:len(list)]
}

// whole is p with its spare room as part of its lists.
func whole(p api.Pane) api.Pane {
	p.Esc.Par = p.Esc.Par[:cap(p.Esc.Par)]
	p.Grid.Rows, p.Grid.Back = wholeLines(p.Grid.Rows), wholeLines(p.Grid.Back)
	return p
}

func wholeLines(lines [][]api.Cell) [][]api.Cell {
	var out [][]api.Cell
	for _, r := range lines[:cap(lines)] {
		out = append(out, r[:cap(r)])
	}
	return out
}

// spoil writes over all of p, its spare room too.
func spoil(p api.Pane) {
	p = whole(p)
	for i := range p.Esc.Par {
		p.Esc.Par[i] = -12345
	}
	for _, lines := range [][][]api.Cell{p.Grid.Rows, p.Grid.Back} {
		for _, r := range lines {
			for x := range r {
				r[x] = api.Cell{R: '!', A: -1}
			}
		}
	}
	spoilLists(p.Grid.Rows)
	spoilLists(p.Grid.Back)
}

func spoilLists(lines [][]api.Cell) {
	for y := range lines {
		lines[y] = nil
	}
}

// calls are all that make a pane of a pane.
func calls() map[string]func(p api.Pane) api.Pane {
	out := map[string]func(p api.Pane) api.Pane{
		"as large": func(p api.Pane) api.Pane { return Resize(p, p.Grid.W, p.Grid.H) },
		"smaller":  func(p api.Pane) api.Pane { return Resize(p, 1, 1) },
		"larger":   func(p api.Pane) api.Pane { return Resize(p, 9, 9) },
	}
	for _, s := range append(texts(), ";", ";;7;", "5", ";5;6;8m", "\x00", "\x07", "\xe2") {
		out["fed "+s] = func(p api.Pane) api.Pane { return Feed(p, []byte(s)) }
	}
	return out
}

// Rule 3: nothing that is handed in is changed, nor shared with an answer.
func TestNothingShared(t *testing.T) {
	for _, start := range []string{"abc\r\n\n\nd", "abc\r\n\n\nd\x1b[1;2;3", "\xc3", strings.Repeat("x\n", 60) + "\x1b[?25"} {
		for name, call := range calls() {
			p := roomy(Feed(New(4, 3), []byte(start)))
			before := plain(whole(p))
			got := call(p)
			if !reflect.DeepEqual(plain(whole(p)), before) {
				t.Errorf("%q, %q: changed", start, name)
			}
			want := plain(got)
			spoil(p)
			if !equal(got, want) {
				t.Errorf("%q, %q: kept", start, name)
			}
			p = roomy(Feed(New(4, 3), []byte(start)))
			spoil(call(p))
			if !reflect.DeepEqual(plain(whole(p)), before) {
				t.Errorf("%q, %q: handed back", start, name)
			}
		}
	}
}

// Rule 3: an answer stays as it is, whatever is called next; its lists share nothing.
func TestAnswerStays(t *testing.T) {
	for name, call := range calls() {
		first := call(Feed(New(4, 3), []byte("ab\n\n\nc\x1b[4;5")))
		kept := plain(first)
		second := call(first)
		other := plain(second)
		spoil(first)
		if !equal(second, other) {
			t.Errorf("%q: the second goes with the first", name)
		}
		again := call(Feed(New(4, 3), []byte("ab\n\n\nc\x1b[4;5")))
		if !equal(again, kept) {
			t.Errorf("%q: not the same again", name)
		}
		checkApart(t, name, again)
	}
	checkApart(t, "New", New(3, 3))
}

// checkApart marks one line after the other, and looks if another one has the mark.
func checkApart(t *testing.T, name string, p api.Pane) {
	t.Helper()
	lines := append(slices.Clone(p.Grid.Rows), p.Grid.Back...)
	for i, r := range lines {
		for x := range r[:cap(r)] {
			r[:cap(r)][x] = api.Cell{R: rune(100000 + i)}
		}
	}
	for i, r := range lines {
		if slices.ContainsFunc(r, func(c api.Cell) bool { return c.R != rune(100000+i) }) {
			t.Errorf("%q: line %d is shared", name, i)
		}
	}
}

// Rule 3: the bytes are not changed, nor the room behind them, nor kept.
func TestBytesStay(t *testing.T) {
	room := []byte("ab\x1b[1;2mc\xc3\xa9#####")
	b := room[: len(room)-5 : len(room)]
	before := string(room)
	p := Feed(New(4, 2), b)
	if string(room) != before {
		t.Errorf("%q", room)
	}
	kept := plain(p)
	for i := range room {
		room[i] = 'z'
	}
	if !equal(p, kept) || show(p.Grid.Rows) != "abcé|    " {
		t.Error(show(p.Grid.Rows))
	}
}

// broken are panes that no call makes.
func broken() []api.Pane {
	far := api.Grid{W: math.MaxInt, H: math.MaxInt, X: math.MaxInt, Y: math.MaxInt, A: math.MaxInt, Top: math.MinInt, Bottom: math.MaxInt, SX: math.MinInt, SY: math.MaxInt, SA: math.MinInt}
	low := api.Grid{W: math.MinInt, H: math.MinInt, X: math.MinInt, Y: math.MinInt, Wrap: true, A: math.MinInt, Top: math.MaxInt, Bottom: math.MinInt, SX: math.MaxInt, SY: math.MinInt}
	few := api.Grid{W: 5, H: 5, X: 4, Y: 4, Bottom: 4, Rows: [][]api.Cell{nil, {{R: 'a'}}}}
	many := api.Grid{W: 1, H: 1, Y: 1, Top: 2, Bottom: 1, Rows: make([][]api.Cell, 9), Back: make([][]api.Cell, 99)}
	var out []api.Pane
	for _, g := range []api.Grid{{}, far, low, few, many} {
		out = append(out,
			api.Pane{Grid: g},
			api.Pane{Grid: g, Esc: api.Esc{Mode: -1}},
			api.Pane{Grid: g, Esc: api.Esc{Mode: math.MaxInt, Utf: api.Utf{Need: math.MaxInt, Min: math.MinInt, Got: math.MaxInt}}},
			api.Pane{Grid: g, Esc: api.Esc{Utf: api.Utf{Need: -1, Min: math.MaxInt, Got: math.MinInt}}},
			api.Pane{Grid: g, Esc: api.Esc{Utf: api.Utf{Need: 2, Got: math.MaxInt}}},
			api.Pane{Grid: g, Esc: api.Esc{Mode: api.ECsi, Par: make([]int, 40), Num: math.MaxInt}},
			api.Pane{Grid: g, Esc: api.Esc{Mode: api.ECsi, Par: []int{math.MinInt, math.MaxInt}, Num: math.MinInt, Priv: true}},
		)
	}
	return out
}

// 7.3: no call panics.
func TestNoPanic(t *testing.T) {
	for i, p := range broken() {
		for _, s := range texts() {
			q := Feed(p, []byte(s))
			for _, n := range []int{math.MinInt, -1, 0, 3, 1001} {
				Resize(q, n, 2)
				Resize(p, 2, n)
			}
			if !Same(q, q) {
				t.Error(i)
			}
		}
	}
	Feed(New(1000, 1), []byte(strings.Repeat("x", 2100)))
	Feed(New(1, 1000), []byte(strings.Repeat("x\n", 1100)))
}
