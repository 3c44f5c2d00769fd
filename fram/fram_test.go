package fram

import (
	"math"
	"reflect"
	"slices"
	"strings"
	"testing"

	"polyptych/api"
	"polyptych/pane"
	"polyptych/tree"
)

// edges are numbers at a window's bounds, and at the ends of int.
var edges = []int{math.MinInt, math.MinInt + 1, -1_000, -1, 0, 1, 2, 3, 5, 63, 999, 1_000, 1_001, 1 << 32, math.MaxInt - 1, math.MaxInt}

func leaf(n int) api.Node { return api.Node{Pane: n} }

func fork(dir, first, a, b int) api.Node { return api.Node{Dir: dir, First: first, A: a, B: b} }

func treeOf(nodes ...api.Node) api.Tree { return api.Tree{Nodes: nodes} }

// some is 3 to the left of 5 above 4.
func some() api.Tree {
	return treeOf(fork(api.DRight, 2, 1, 2), leaf(3), fork(api.DDown, 1, 3, 4), leaf(5), leaf(4))
}

// fed is a pane of w by h that was fed.
func fed(id, w, h int, s string) api.Named {
	return api.Named{ID: id, Pane: pane.Feed(pane.New(w, h), []byte(s))}
}

// forSome are panes as large as their places in some, in a window of 6 by 4.
func forSome() []api.Named {
	return []api.Named{fed(4, 3, 2, "12\r\n3"), fed(3, 2, 4, "ab\r\ncd"), fed(5, 3, 1, "\x1b[1mxé")}
}

// mark is a cell that stands at no other place, and in no other pane.
func mark(id, x, y int) api.Cell {
	return api.Cell{R: rune(id)<<20 | rune(y)<<10 | rune(x), A: id + 7*x + 11*y}
}

// marked is a pane of w by h marks, with its cursor at x, y.
func marked(id, w, h, x, y int) api.Named {
	lines := make([][]api.Cell, h)
	for i := range lines {
		for k := range w {
			lines[i] = append(lines[i], mark(id, k, i))
		}
	}
	return api.Named{ID: id, Pane: api.Pane{Grid: api.Grid{W: w, H: h, X: x, Y: y, Bottom: h - 1, Rows: lines}}}
}

func show(f api.Frame) string {
	var out []string
	for _, r := range f.Rows {
		s := ""
		for _, c := range r {
			s += string(c.R)
		}
		out = append(out, s)
	}
	return strings.Join(out, "/")
}

// paneOf is the first of that ID.
func paneOf(panes []api.Named, id int) (api.Pane, bool) {
	i := slices.IndexFunc(panes, func(p api.Named) bool { return p.ID == id })
	if i < 0 {
		return api.Pane{}, false
	}
	return panes[i].Pane, true
}

// cellAt tells what stands at x, y of the part that begins at node i, by going down to it from above.
func cellAt(nodes []api.Node, i, x, y int, panes []api.Named) api.Cell {
	n := nodes[i]
	if n.Pane > 0 {
		p, _ := paneOf(panes, n.Pane)
		if y < len(p.Grid.Rows) && x < len(p.Grid.Rows[y]) {
			return p.Grid.Rows[y][x]
		}
		return api.Cell{R: 32}
	}
	at, sign := &x, rune(124)
	if n.Dir == api.DDown {
		at, sign = &y, 45
	}
	if *at == n.First {
		return api.Cell{R: sign}
	}
	if *at < n.First {
		return cellAt(nodes, n.A, x, y, panes)
	}
	*at -= n.First + 1
	return cellAt(nodes, n.B, x, y, panes)
}

// cornerOf tells where the pane begins in the part that begins at node i.
func cornerOf(nodes []api.Node, i, id int) (x, y int, ok bool) {
	n := nodes[i]
	if n.Pane > 0 {
		return 0, 0, n.Pane == id
	}
	if x, y, ok = cornerOf(nodes, n.A, id); ok {
		return x, y, true
	}
	x, y, ok = cornerOf(nodes, n.B, id)
	if n.Dir == api.DRight {
		return x + n.First + 1, y, ok
	}
	return x, y + n.First + 1, ok
}

// told is what the chapter's words ask of Make of a tree that has Places, told place by place.
func told(t api.Tree, w, h int, panes []api.Named, active int) (api.Frame, bool) {
	for _, n := range t.Nodes {
		if _, ok := paneOf(panes, n.Pane); n.Pane > 0 && !ok {
			return api.Frame{}, false
		}
	}
	f := api.Frame{W: w, H: h, Rows: make([][]api.Cell, h)}
	for y := range h {
		for x := range w {
			f.Rows[y] = append(f.Rows[y], cellAt(t.Nodes, 0, x, y, panes))
		}
	}
	if x, y, ok := cornerOf(t.Nodes, 0, active); ok {
		p, _ := paneOf(panes, active)
		f.X, f.Y, f.On = x+p.Grid.X, y+p.Grid.Y, !p.Grid.Hidden
	}
	return f, true
}

// plain makes nil of every empty list, so that equal ones are deeply equal.
func plain(f api.Frame) api.Frame {
	f.Rows = plainLines(f.Rows)
	return f
}

func plainLines(lines [][]api.Cell) [][]api.Cell {
	var out [][]api.Cell
	for _, r := range lines {
		out = append(out, append([]api.Cell(nil), r...))
	}
	return out
}

// equal tells whether a and b are the same, without asking Same.
func equal(a, b api.Frame) bool { return reflect.DeepEqual(plain(a), plain(b)) }

// check holds Make against what is told of it.
func check(t *testing.T, x api.Tree, w, h int, panes []api.Named, active int) {
	t.Helper()
	var want api.Frame
	_, _, fits := tree.Places(x, w, h)
	if fits {
		want, fits = told(x, w, h, panes, active)
	}
	got, ok := Make(x, w, h, panes, active)
	if ok != fits || !equal(got, want) {
		t.Fatalf("Make(%v, %d, %d, .., %d): %v %d by %d %q at %d, %d %v", x, w, h, active, ok, got.W, got.H, show(got), got.X, got.Y, got.On)
	}
}

// checkFalse asks that there is no frame, and nothing beside the false.
func checkFalse(t *testing.T, x api.Tree, w, h int, panes []api.Named, active int) {
	t.Helper()
	if got, ok := Make(x, w, h, panes, active); ok || !equal(got, api.Frame{}) {
		t.Errorf("Make(%v, %d, %d, .., %d): %v %v", x, w, h, active, ok, got)
	}
}

// 11.1: Make, written out.
func TestMakeWrittenOut(t *testing.T) {
	for i, x := range []struct {
		t     api.Tree
		w, h  int
		panes []api.Named
		want  string
	}{
		{tree.One(7), 3, 2, []api.Named{fed(7, 3, 2, "abcd")}, "abc/d  "},
		{tree.One(7), 1, 1, []api.Named{fed(7, 1, 1, "q")}, "q"},
		{some(), 6, 4, forSome(), "ab|xé /cd|---/  |12 /  |3  "},
		{treeOf(fork(api.DRight, 1, 1, 2), leaf(1), leaf(2)), 3, 1, []api.Named{fed(2, 1, 1, "b"), fed(1, 1, 1, "a")}, "a|b"},
		{treeOf(fork(api.DDown, 1, 1, 2), leaf(1), leaf(2)), 1, 3, []api.Named{fed(1, 1, 1, "a"), fed(2, 1, 1, "b")}, "a/-/b"},
		{treeOf(fork(api.DDown, 1, 1, 4), fork(api.DRight, 1, 2, 3), leaf(1), leaf(2), fork(api.DRight, 2, 5, 6), leaf(3), leaf(4)), 4, 3,
			[]api.Named{fed(1, 1, 1, "a"), fed(2, 2, 1, "bb"), fed(3, 2, 1, "cc"), fed(4, 1, 1, "d")}, "a|bb/----/cc|d"},
		{treeOf(fork(api.DRight, 1, 1, 4), fork(api.DDown, 1, 2, 3), leaf(1), leaf(2), fork(api.DDown, 2, 5, 6), leaf(3), leaf(4)), 3, 4,
			[]api.Named{fed(1, 1, 1, "a"), fed(2, 1, 2, "b"), fed(3, 1, 2, "c"), fed(4, 1, 1, "d")}, "a|c/-| /b|-/ |d"},
		// Signs of borders in a pane are no borders.
		{treeOf(fork(api.DDown, 1, 1, 2), leaf(1), leaf(2)), 2, 3, []api.Named{fed(1, 2, 1, "\x1b[7m|-"), fed(2, 2, 1, "-|")}, "|-/--/-|"},
		// Panes that the tree does not have are not shown.
		{tree.One(7), 2, 1, []api.Named{fed(1, 2, 1, "no"), fed(7, 2, 1, "ok"), fed(8, 2, 1, "no")}, "ok"},
	} {
		f, ok := Make(x.t, x.w, x.h, x.panes, 0)
		if !ok || f.W != x.w || f.H != x.h || show(f) != x.want || f.X != 0 || f.Y != 0 || f.On {
			t.Error(i, ok, f.W, f.H, show(f), f.X, f.Y, f.On)
		}
	}
}

// 11.1: cells have their attributes, borders none.
func TestAttributes(t *testing.T) {
	f, _ := Make(some(), 6, 4, forSome(), 0)
	bold := api.Cell{R: 'x', A: 1}
	if f.Rows[0][3] != bold || f.Rows[0][4] != (api.Cell{R: 0xe9, A: 1}) || f.Rows[0][5] != (api.Cell{R: 32}) || f.Rows[0][0] != (api.Cell{R: 'a'}) {
		t.Error(f.Rows[0])
	}
	for y := range 4 {
		if f.Rows[y][2] != (api.Cell{R: 124}) {
			t.Error(y, f.Rows[y][2])
		}
	}
	for x := 3; x < 6; x++ {
		if f.Rows[1][x] != (api.Cell{R: 45}) {
			t.Error(x, f.Rows[1][x])
		}
	}
	// Where a pane is larger than its place, its cells don't come below a border, nor its attributes.
	f, _ = Make(some(), 6, 4, []api.Named{marked(3, 9, 9, 0, 0), marked(4, 9, 9, 0, 0), marked(5, 9, 9, 0, 0)}, 0)
	if f.Rows[3][2] != (api.Cell{R: 124}) || f.Rows[1][4] != (api.Cell{R: 45}) || f.Rows[3][1] != mark(3, 1, 3) || f.Rows[3][5] != mark(4, 2, 1) || f.Rows[0][3] != mark(5, 0, 0) {
		t.Error(f.Rows)
	}
}

// 11.1: the cursor is the active pane's, at its place.
func TestCursor(t *testing.T) {
	for _, x := range []struct {
		active, x, y int
		on           bool
	}{{3, 1, 1, true}, {5, 5, 0, true}, {4, 4, 3, true}, {9, 0, 0, false}, {7, 0, 0, false}, {0, 0, 0, false}, {-3, 0, 0, false}, {math.MinInt, 0, 0, false}, {math.MaxInt, 0, 0, false}} {
		// Pane 7 is among those handed in, but the tree does not have it: it is not there.
		panes := append(forSome(), fed(7, 3, 3, "\r\nx"), fed(0, 3, 3, "\r\nx"), fed(-3, 3, 3, "\r\nx"))
		f, ok := Make(some(), 6, 4, panes, x.active)
		if !ok || f.X != x.x || f.Y != x.y || f.On != x.on {
			t.Error(x, ok, f.X, f.Y, f.On)
		}
	}
	for _, x := range []struct {
		fed  string
		x, y int
		on   bool
	}{{"a\x1b[?25l", 1, 0, false}, {"a\x1b[?25l\x1b[?25h", 1, 0, true}, {"\x1b[3;2H\x1b[?25l", 1, 2, false}, {"ab", 1, 0, true}, {"", 0, 0, true}, {"\x1b[9;9H", 1, 3, true}} {
		panes := append([]api.Named{fed(3, 2, 4, x.fed)}, forSome()...)
		if f, _ := Make(some(), 6, 4, panes, 3); f.X != x.x || f.Y != x.y || f.On != x.on {
			t.Errorf("%q: %d, %d, %v", x.fed, f.X, f.Y, f.On)
		}
		if f, _ := Make(some(), 6, 4, panes, 5); f.X != 5 || f.Y != 0 || !f.On {
			t.Errorf("%q, another is active: %d, %d, %v", x.fed, f.X, f.Y, f.On)
		}
	}
	// A cursor stands where it is in its pane, even if the pane is larger than its place.
	panes := []api.Named{marked(3, 9, 9, 8, 7), marked(5, 9, 9, 6, 5), marked(4, 9, 9, 1, 8)}
	for active, want := range map[int][2]int{3: {8, 7}, 5: {9, 5}, 4: {4, 10}} {
		if f, _ := Make(some(), 6, 4, panes, active); f.X != want[0] || f.Y != want[1] || !f.On {
			t.Error(active, f.X, f.Y, f.On)
		}
	}
}

// 11.1: rows are cut or filled to their place.
func TestCutAndFilled(t *testing.T) {
	for i, x := range []struct {
		panes []api.Named
		want  string
	}{
		{[]api.Named{fed(3, 5, 1, "abcde"), fed(4, 1, 1, "z"), fed(5, 1, 1, "y")}, "ab|y  /  |---/  |z  /  |   "},
		{[]api.Named{fed(3, 1, 9, "a\r\nb\r\nc\r\nd\r\ne"), fed(4, 9, 1, "vwxyz"), fed(5, 2, 2, "stuv")}, "a |st /b |---/c |vwx/d |   "},
		{[]api.Named{{ID: 3}, {ID: 5}, {ID: 4}}, "  |   /  |---/  |   /  |   "},
		{[]api.Named{fed(3, 1_000, 1_000, "a"), fed(5, 1_000, 1, "b"), fed(4, 1, 1_000, "c")}, "a |b  /  |---/  |c  /  |   "},
	} {
		if f, ok := Make(some(), 6, 4, x.panes, 0); !ok || show(f) != x.want {
			t.Error(i, ok, show(f))
		}
	}
	// It is the rows that count, each one for itself, whatever W and H say.
	odd := api.Named{ID: 1, Pane: api.Pane{Grid: api.Grid{W: 1, H: 1, Rows: [][]api.Cell{nil, {{R: 'a'}}, {{R: 'b'}, {R: 'c'}, {R: 'd'}, {R: 'e'}}, {}, {{R: 'f'}, {R: 'g'}}}}}}
	if f, ok := Make(tree.One(1), 3, 6, []api.Named{odd}, 0); !ok || show(f) != "   /a  /bcd/   /fg /   " {
		t.Error(ok, show(f))
	}
	if f, ok := Make(tree.One(1), 3, 2, []api.Named{odd}, 0); !ok || show(f) != "   /a  " {
		t.Error(ok, show(f))
	}
	// What went is not shown.
	if f, ok := Make(tree.One(1), 3, 4, []api.Named{fed(1, 3, 2, "a\r\nb\r\nc\r\nd")}, 0); !ok || show(f) != "c  /d  /   /   " {
		t.Error(ok, show(f))
	}
}

// 11.1: of panes of one ID the first is taken.
func TestOneIDTwice(t *testing.T) {
	panes := []api.Named{fed(2, 2, 1, "a"), fed(1, 2, 1, "b"), fed(1, 2, 1, "cd"), fed(2, 2, 1, "ef")}
	if f, ok := Make(tree.One(1), 2, 1, panes, 1); !ok || show(f) != "b " || f.X != 1 || !f.On {
		t.Error(ok, show(f), f.X)
	}
}

// 11.1: windows of no columns or no rows, which have Places, and the largest ones.
func TestLeastAndGreatest(t *testing.T) {
	one := []api.Named{fed(1, 3, 3, "a\r\nb")}
	for _, size := range [][2]int{{0, 0}, {5, 0}, {0, 5}, {0, 1_000}, {1_000, 0}} {
		f, ok := Make(tree.One(1), size[0], size[1], one, 1)
		if !ok || f.W != size[0] || f.H != size[1] || len(f.Rows) != size[1] || f.X != 1 || f.Y != 1 || !f.On {
			t.Error(size, ok, f)
		}
		for _, r := range f.Rows {
			if len(r) != 0 {
				t.Error(size, r)
			}
		}
	}
	x := treeOf(fork(api.DRight, 998, 1, 4), fork(api.DDown, 1, 2, 3), leaf(1), leaf(2), fork(api.DDown, 998, 5, 6), leaf(3), leaf(4))
	check(t, x, 1_000, 1_000, []api.Named{marked(1, 998, 1, 997, 0), marked(2, 998, 998, 0, 0), marked(3, 1, 998, 0, 0), marked(4, 1, 1, 0, 0)}, 4)
	for _, size := range [][2]int{{1_001, 5}, {5, 1_001}, {-1, 5}, {5, -1}, {math.MaxInt, 5}, {5, math.MaxInt}, {math.MinInt, 5}, {5, math.MinInt}, {1<<32 + 5, 5}, {5, 1<<32 + 5}} {
		checkFalse(t, tree.One(1), size[0], size[1], one, 1)
	}
}

// 11.1: false, if there are no Places, or a pane of the tree is not among panes.
func TestMakeFalse(t *testing.T) {
	all := forSome()
	for _, size := range [][2]int{{3, 4}, {2, 4}, {6, 2}, {6, 1}, {0, 4}, {6, 0}, {0, 0}, {1_001, 4}, {6, 1_001}, {6, -1}, {-1, 4}} {
		for _, active := range []int{3, 9, 0} {
			checkFalse(t, some(), size[0], size[1], all, active)
		}
	}
	for gone := range all {
		left := slices.Delete(slices.Clone(all), gone, gone+1)
		for _, active := range []int{3, 4, 5, 9} {
			checkFalse(t, some(), 6, 4, left, active)
			checkFalse(t, some(), 6, 4, append(left, fed(9, 3, 3, "x"), fed(0, 3, 3, "y"), fed(-4, 3, 3, "z")), active)
		}
	}
	checkFalse(t, some(), 6, 4, nil, 3)
	checkFalse(t, some(), 6, 4, []api.Named{}, 3)
	checkFalse(t, tree.One(1), 6, 4, nil, 1)
	for _, x := range broken() {
		for _, active := range []int{1, 3, 0} {
			checkFalse(t, x, 6, 4, append(forSome(), fed(1, 3, 3, "a"), fed(2, 3, 3, "a"), fed(0, 3, 3, "b"), fed(-1, 3, 3, "c")), active)
		}
	}
}

// broken are lists of nodes that are no trees.
func broken() []api.Tree {
	const right = api.DRight
	ring := make([]api.Node, 63)
	for i := range ring {
		ring[i] = fork(right, 1, (i+1)%63, 0)
	}
	return []api.Tree{
		{}, treeOf(), treeOf(leaf(0)), treeOf(leaf(-1)), treeOf(api.Node{Pane: 1, Dir: right}), treeOf(api.Node{Pane: 1, First: 1}),
		treeOf(leaf(1), leaf(2)), treeOf(fork(right, 1, 1, 2)), treeOf(fork(right, 1, 1, 2), leaf(1)), treeOf(fork(right, 1, 1, 2), leaf(1), leaf(1)),
		treeOf(fork(0, 1, 1, 2), leaf(1), leaf(2)), treeOf(fork(3, 1, 1, 2), leaf(1), leaf(2)), treeOf(fork(-1, 1, 1, 2), leaf(1), leaf(2)),
		treeOf(fork(right, 0, 1, 2), leaf(1), leaf(2)), treeOf(fork(right, 1_001, 1, 2), leaf(1), leaf(2)), treeOf(fork(right, 1, 2, 1), leaf(1), leaf(2)),
		treeOf(fork(right, 1, 0, 0), leaf(1), leaf(2)), treeOf(fork(right, 1, 1, math.MaxInt), leaf(1), leaf(2)), treeOf(fork(right, 1, math.MinInt, 2), leaf(1), leaf(2)),
		treeOf(ring...), treeOf(make([]api.Node, 64)...), treeOf(append(ring, ring...)...),
	}
}

// trees calls f with every tree of that many panes, each First being one of 1 to 3.
func trees(n int, f func(x api.Tree)) {
	names := []int{3, 9, 1, 7}
	shapes(0, names[:n], func(nodes []api.Node) { f(api.Tree{Nodes: slices.Clone(nodes)}) })
}

// shapes calls f with all nodes, numbered by where they stand from from on, of trees of panes.
func shapes(from int, panes []int, f func(nodes []api.Node)) {
	if len(panes) == 1 {
		f([]api.Node{leaf(panes[0])})
		return
	}
	for n := 1; n < len(panes); n++ {
		shapes(from+1, panes[:n], func(a []api.Node) {
			shapes(from+1+len(a), panes[n:], func(b []api.Node) {
				for first := 1; first <= 3; first++ {
					for _, dir := range []int{api.DRight, api.DDown} {
						f(slices.Concat([]api.Node{fork(dir, first, from+1, from+1+len(a))}, a, b))
					}
				}
			})
		})
	}
}

// 11.1: all trees of up to three panes in all small windows, and those of four in some, against what is told place by place.
func TestMake(t *testing.T) {
	panes := []api.Named{marked(1, 2, 3, 1, 1), marked(2, 2, 2, 1, 1), marked(3, 4, 1, 3, 0), marked(7, 12, 12, 2, 3), marked(9, 1, 5, 0, 4)}
	panes[2].Pane.Grid.Hidden = true
	for n := 1; n <= 3; n++ {
		trees(n, func(x api.Tree) {
			for w := range 10 {
				for h := range 10 {
					check(t, x, w, h, panes, []int{3, 9, 1, 2}[(w+3*h)%4])
				}
			}
		})
	}
	trees(4, func(x api.Tree) {
		check(t, x, 9, 8, panes, 7)
		check(t, x, 12, 11, panes, 9)
		check(t, x, 12, 11, panes[1:], 9)
	})
}

// picks answers numbers of which none is told by the ones ahead of it at first sight, the same ones each time.
func picks(seed uint64) func(n int) int {
	return func(n int) int {
		seed = seed*6364136223846793005 + 1442695040888963407
		return int(seed >> 33 % uint64(n))
	}
}

// grown is a tree of many panes in a window of w by h, and the panes: each as large as its place.
func grown(seed uint64, w, h int) (api.Tree, []api.Named) {
	pick := picks(seed)
	x := tree.One(1)
	for id := 2; id <= 32; id++ {
		panes := tree.Panes(x)
		if next, ok := tree.Split(x, w, h, panes[pick(len(panes))], id, 1+pick(2), float64(pick(10))/10); ok {
			x = next
		}
	}
	spots, _, _ := tree.Places(x, w, h)
	var panes []api.Named
	for _, s := range spots {
		panes = append(panes, marked(s.Pane, s.Rect.W, s.Rect.H, pick(s.Rect.W), pick(s.Rect.H)))
	}
	slices.SortFunc(panes, func(a, b api.Named) int { return a.ID - b.ID })
	return x, panes
}

// 11.2, W2: the frame is the whole window: each place is a border's, or one of one pane's cells, and each of these is there.
func TestWhole(t *testing.T) {
	for seed := range uint64(200) {
		w, h := 1+int(seed*7%60), 1+int(seed*5%40)
		x, panes := grown(seed, w, h)
		check(t, x, w, h, panes, panes[int(seed)%len(panes)].ID)
		f, _ := Make(x, w, h, panes, panes[0].ID)
		left := map[api.Cell]int{}
		borders := w * h
		for _, p := range panes {
			borders -= p.Pane.Grid.W * p.Pane.Grid.H
			for _, r := range p.Pane.Grid.Rows {
				for _, c := range r {
					left[c]++
				}
			}
		}
		for _, r := range f.Rows {
			for _, c := range r {
				if c == (api.Cell{R: '|'}) || c == (api.Cell{R: '-'}) {
					borders--
				} else {
					left[c]--
				}
			}
		}
		for c, n := range left {
			if n != 0 {
				t.Fatalf("seed %d: %v is left %d times", seed, c, n)
			}
		}
		if borders != 0 || len(f.Rows) != h || slices.ContainsFunc(f.Rows, func(r []api.Cell) bool { return len(r) != w }) {
			t.Fatalf("seed %d: %d borders are left", seed, borders)
		}
	}
}

// 11.2, W2: what happens to a pane later is not to be seen in a frame, and in the next one at its own place alone.
func TestOneMoment(t *testing.T) {
	panes := forSome()
	was, _ := Make(some(), 6, 4, panes, 5)
	kept := plain(was)
	for i := range panes {
		later := slices.Clone(panes)
		later[i].Pane = pane.Feed(later[i].Pane, []byte("\x1b[2J\x1b[HQQQQ"))
		f, ok := Make(some(), 6, 4, later, 5)
		if !ok || !equal(was, kept) {
			t.Fatal(i, ok, show(was))
		}
		spots, _, _ := tree.Places(some(), 6, 4)
		k := slices.IndexFunc(spots, func(s api.Spot) bool { return s.Pane == panes[i].ID })
		for y, r := range f.Rows {
			for x, c := range r {
				at := spots[k].Rect
				inside := at.X <= x && x < at.X+at.W && at.Y <= y && y < at.Y+at.H
				if !inside && c != was.Rows[y][x] || inside && c.R != 'Q' && c.R != ' ' {
					t.Error(i, x, y, c)
				}
			}
		}
	}
	again, _ := Make(some(), 6, 4, panes, 5)
	if !equal(again, kept) || !Same(again, was) {
		t.Error(show(again))
	}
}

// 11.2, W2: the bytes that were begun in a pane are not shown until they end.
func TestBegunIsNotShown(t *testing.T) {
	whole, _ := Make(tree.One(1), 4, 1, []api.Named{fed(1, 4, 1, "a")}, 1)
	for _, begun := range []string{"\x1b", "\x1b[2", "\x1b]0;t", "\xe2\x82"} {
		if f, ok := Make(tree.One(1), 4, 1, []api.Named{fed(1, 4, 1, "a"+begun)}, 1); !ok || !Same(f, whole) {
			t.Errorf("%q: %q", begun, show(f))
		}
	}
}

// 11.1: Row.
func TestRow(t *testing.T) {
	f, _ := Make(some(), 6, 4, forSome(), 3)
	for y, want := range []string{"ab|xé ", "cd|---", "  |12 ", "  |3  "} {
		if got := Row(f, y); got != want {
			t.Errorf("%d: %q", y, got)
		}
	}
	for _, y := range edges {
		if got := Row(f, y); (y < 0 || y > 3) && got != "" {
			t.Errorf("%d: %q", y, got)
		}
		if got := Row(api.Frame{W: 2, H: 1}, y) + Row(api.Frame{}, y) + Row(api.Frame{H: math.MaxInt, Rows: [][]api.Cell{nil, {}}}, y); got != "" {
			t.Errorf("%d of nothing: %q", y, got)
		}
	}
	two, _ := Make(tree.One(1), 2, 1, []api.Named{fed(1, 2, 1, "ab")}, 1)
	if Row(two, 9) != "" || Row(two, 1) != "" || Row(two, -1) != "" || Row(two, 0) != "ab" {
		t.Error(Row(two, 9), Row(two, 0))
	}
	// The rows count, whatever W and H say.
	if got := Row(api.Frame{Rows: [][]api.Cell{{{R: 'a'}}, {{R: 'b'}, {R: 'c', A: 9}}}}, 1); got != "bc" {
		t.Errorf("%q", got)
	}
}

// 11.1: Row of runes of every length, and of what is no rune.
func TestRowOfAnyRunes(t *testing.T) {
	for _, x := range []struct {
		r    rune
		want string
	}{
		{0, "\x00"}, {9, "\t"}, {32, " "}, {127, "\x7f"}, {128, "\xc2\x80"}, {0x7ff, "\xdf\xbf"}, {0x800, "\xe0\xa0\x80"}, {0xd7ff, "\xed\x9f\xbf"}, {0xe000, "\xee\x80\x80"},
		{0xfffd, "\xef\xbf\xbd"}, {0xffff, "\xef\xbf\xbf"}, {0x10000, "\xf0\x90\x80\x80"}, {0x10ffff, "\xf4\x8f\xbf\xbf"},
		{-1, "\xef\xbf\xbd"}, {0xd800, "\xef\xbf\xbd"}, {0xdfff, "\xef\xbf\xbd"}, {0x110000, "\xef\xbf\xbd"}, {math.MinInt32, "\xef\xbf\xbd"}, {math.MaxInt32, "\xef\xbf\xbd"},
	} {
		for _, a := range edges {
			f := api.Frame{W: 3, H: 1, Rows: [][]api.Cell{{{R: 'a'}, {R: x.r, A: a}, {R: 'z'}}}}
			if got := Row(f, 0); got != "a"+x.want+"z" {
				t.Errorf("%x: %q", x.r, got)
			}
		}
	}
}

// rich is a frame of which no field has its zero value.
func rich() api.Frame {
	return api.Frame{W: 2, H: 2, X: 1, Y: 1, On: true, Rows: [][]api.Cell{{{R: 'a', A: 1}, {R: 'b', A: 2}}, {{R: 'c', A: 3}, {R: 'd', A: 4}}}}
}

// 11.1: Same asks every field, and nil is an empty list.
func TestSame(t *testing.T) {
	if !Same(rich(), rich()) || !Same(api.Frame{}, api.Frame{}) || Same(rich(), api.Frame{}) || Same(api.Frame{}, rich()) {
		t.Error("the same one")
	}
	for i, turn := range []func(f *api.Frame){
		func(f *api.Frame) { f.W++ }, func(f *api.Frame) { f.H-- }, func(f *api.Frame) { f.X-- }, func(f *api.Frame) { f.Y++ }, func(f *api.Frame) { f.On = false },
		func(f *api.Frame) { f.W, f.H = 1, 4 }, func(f *api.Frame) { f.X, f.Y = 0, 2 }, func(f *api.Frame) { f.Rows[0], f.Rows[1] = f.Rows[1], f.Rows[0] },
		func(f *api.Frame) { f.Rows[0][0].R++ }, func(f *api.Frame) { f.Rows[1][1].R-- }, func(f *api.Frame) { f.Rows[0][1].A++ }, func(f *api.Frame) { f.Rows[1][0].A-- },
		func(f *api.Frame) { f.Rows[1] = f.Rows[1][:1] }, func(f *api.Frame) { f.Rows[0] = append(f.Rows[0], api.Cell{}) }, func(f *api.Frame) { f.Rows[0] = nil },
		func(f *api.Frame) { f.Rows = f.Rows[:1] }, func(f *api.Frame) { f.Rows = append(f.Rows, nil) }, func(f *api.Frame) { f.Rows = nil },
		func(f *api.Frame) {
			f.Rows = [][]api.Cell{{{R: 'a', A: 1}}, {{R: 'b', A: 2}, {R: 'c', A: 3}, {R: 'd', A: 4}}}
		},
	} {
		f := rich()
		turn(&f)
		if Same(f, rich()) || Same(rich(), f) || !Same(f, f) {
			t.Error("turn", i)
		}
	}
	nils := []api.Frame{{Rows: nil}, {Rows: [][]api.Cell{nil, nil}}}
	empty := []api.Frame{{Rows: [][]api.Cell{}}, {Rows: [][]api.Cell{{}, {}}}}
	for i := range nils {
		if !Same(nils[i], empty[i]) || !Same(empty[i], nils[i]) || Same(nils[i], empty[1-i]) {
			t.Error("nil and empty", i)
		}
	}
}

// Rule 1: nil and empty lists in what is handed in mean the same.
func TestNilAndEmpty(t *testing.T) {
	nils := []api.Named{{ID: 1, Pane: api.Pane{Grid: api.Grid{Rows: [][]api.Cell{nil, {{R: 'a'}}}}}}}
	empty := []api.Named{{ID: 1, Pane: api.Pane{Esc: api.Esc{Par: []int{}}, Grid: api.Grid{Rows: [][]api.Cell{{}, {{R: 'a'}}}, Back: [][]api.Cell{}}}}}
	a, okA := Make(tree.One(1), 2, 3, nils, 1)
	b, okB := Make(tree.One(1), 2, 3, empty, 1)
	if !okA || !okB || !equal(a, b) || show(a) != "  /a /  " {
		t.Error(okA, okB, show(a), show(b))
	}
	none, okNone := Make(tree.One(1), 2, 2, []api.Named{{ID: 1}}, 1)
	bare, okBare := Make(tree.One(1), 2, 2, []api.Named{{ID: 1, Pane: api.Pane{Grid: api.Grid{Rows: [][]api.Cell{}}}}}, 1)
	if !okNone || !okBare || !equal(none, bare) || show(none) != "  /  " {
		t.Error(okNone, okBare, show(none), show(bare))
	}
}

// withRoom is list with spare room behind it, filled with marks, and all that room.
func withRoom[T any](list []T, mark T) (short, room []T) {
	room = append(slices.Clone(list), mark, mark, mark)
	return room[:len(list)], room
}

// roomy are panes with spare room behind each list, and a func that tells all of it.
func roomy(from []api.Named) ([]api.Named, func() []any) {
	var tell []any
	keep := func(room any) { tell = append(tell, room) }
	lines := func(from [][]api.Cell) [][]api.Cell {
		var out [][]api.Cell
		for _, r := range from {
			short, room := withRoom(r, api.Cell{R: '#', A: 9})
			out = append(out, short)
			keep(room)
		}
		short, room := withRoom(out, []api.Cell{{R: '%', A: 8}})
		keep(room)
		return short
	}
	panes, room := withRoom(from, api.Named{ID: 1, Pane: pane.New(9, 9)})
	for i := range panes {
		panes[i].Pane.Grid.Rows, panes[i].Pane.Grid.Back = lines(panes[i].Pane.Grid.Rows), lines(panes[i].Pane.Grid.Back)
	}
	keep(room)
	return panes, func() []any { return deepCopy(tell) }
}

func deepCopy(list []any) []any {
	var out []any
	for _, x := range list {
		switch x := x.(type) {
		case []api.Cell:
			out = append(out, slices.Clone(x))
		case [][]api.Cell:
			out = append(out, plainLines(x))
		case []api.Named:
			panes := slices.Clone(x)
			for i := range panes {
				panes[i].Pane.Grid.Rows, panes[i].Pane.Grid.Back = plainLines(panes[i].Pane.Grid.Rows), plainLines(panes[i].Pane.Grid.Back)
			}
			out = append(out, panes)
		}
	}
	return out
}

// spoil writes over all of f, its spare room too.
func spoil(f api.Frame) {
	all := f.Rows[:cap(f.Rows)]
	for y, r := range all {
		r = r[:cap(r)]
		for x := range r {
			r[x] = api.Cell{R: '!', A: -1}
		}
		all[y] = nil
	}
}

// Rule 3: what is handed in is not changed, nor the spare room behind it, and an answer shares none of it.
func TestNothingShared(t *testing.T) {
	larger := []api.Named{fed(3, 5, 9, strings.Repeat("abc\r\n", 20)), fed(5, 9, 9, "xyz"), fed(4, 1, 1, "q")}
	for i, c := range []struct {
		t    api.Tree
		w, h int
		from []api.Named
	}{
		{some(), 6, 4, forSome()}, {some(), 6, 4, larger}, {some(), 6, 4, append(forSome(), larger...)},
		// As large as the whole window: its rows could be lent.
		{tree.One(3), 2, 4, forSome()}, {tree.One(5), 3, 1, forSome()}, {tree.One(3), 1, 1, []api.Named{fed(3, 1, 1, "a")}},
	} {
		panes, tell := roomy(c.from)
		nodes, room := withRoom(c.t.Nodes, api.Node{Pane: 70, Dir: 9, First: -1, A: 5, B: 4})
		before, nodesBefore := tell(), slices.Clone(room)
		f, ok := Make(api.Tree{Nodes: nodes}, c.w, c.h, panes, 3)
		kept := plain(f)
		if again := tell(); !ok || !reflect.DeepEqual(again, before) || !slices.Equal(room, nodesBefore) {
			t.Error(i, ok, "changed")
		}
		other, _ := Make(api.Tree{Nodes: nodes}, c.w, c.h, panes, 3)
		spoil(f)
		if again := tell(); !reflect.DeepEqual(again, before) || !slices.Equal(room, nodesBefore) || !equal(other, kept) {
			t.Error(i, "handed back")
		}
		for _, p := range panes {
			spoil(api.Frame{Rows: p.Pane.Grid.Rows})
		}
		clear(room)
		clear(panes[:cap(panes)])
		if !equal(other, kept) {
			t.Error(i, "kept")
		}
	}
}

// Rule 3: no two rows of an answer share memory, not even behind their ends.
func TestRowsApart(t *testing.T) {
	f, _ := Make(some(), 6, 4, forSome(), 3)
	for y, r := range f.Rows {
		r = r[:cap(r)]
		for x := range r {
			r[x] = api.Cell{R: rune(1_000 + y)}
		}
	}
	for y, r := range f.Rows {
		if slices.ContainsFunc(r, func(c api.Cell) bool { return c.R != rune(1_000+y) }) {
			t.Error(y, r)
		}
	}
}

// Rule 3: Row and Same change nothing.
func TestAskedStays(t *testing.T) {
	rows, room := withRoom(rich().Rows, []api.Cell{{R: '%'}})
	f := rich()
	f.Rows = rows
	before := plainLines(room)
	Row(f, 0)
	Row(f, 2)
	Same(f, rich())
	if !reflect.DeepEqual(plainLines(room), before) || !equal(f, rich()) {
		t.Error(room)
	}
}

// strange are panes that no call makes.
func strange() []api.Pane {
	var out []api.Pane
	for i, n := range edges {
		other := edges[(5*i+3)%len(edges)]
		out = append(out,
			api.Pane{Grid: api.Grid{W: n, H: other, X: other, Y: n, A: n, Top: n, Bottom: other, SX: n, SY: other, SA: n, Wrap: true}},
			api.Pane{Esc: api.Esc{Mode: n, Num: other}, Grid: api.Grid{W: other, H: n, X: n, Y: n, Rows: [][]api.Cell{nil, {{R: rune(n), A: n}}, make([]api.Cell, 1_500)}}},
			api.Pane{Grid: api.Grid{X: n, Y: other, Rows: make([][]api.Cell, 1_500), Back: make([][]api.Cell, 99)}},
		)
	}
	return out
}

// 11.3: Make does not panic, whatever trees, windows, panes and IDs it is given.
func TestMakeNoPanic(t *testing.T) {
	all := append(broken(), tree.One(1), tree.One(math.MaxInt), some())
	for i, n := range edges {
		all = append(all, treeOf(api.Node{Pane: n, Dir: n, First: n, A: n, B: n}), treeOf(fork(api.DRight, n, 1, 2), leaf(3), leaf(5)), treeOf(fork(api.DDown, 1, n, edges[(3*i)%len(edges)]), leaf(3), leaf(5)))
	}
	for _, x := range all {
		for i, w := range edges {
			for k, h := range edges {
				if w > 900 && h > 900 && i != k {
					continue
				}
				Make(x, w, h, append(forSome(), api.Named{ID: edges[(i+k)%len(edges)]}), edges[(i*k)%len(edges)])
			}
		}
	}
	for i, p := range strange() {
		panes := []api.Named{{ID: 3, Pane: p}, {ID: 5, Pane: p}, {ID: edges[i%len(edges)], Pane: p}, {ID: 4, Pane: p}}
		for _, active := range []int{3, 5, 4, 0, math.MinInt} {
			f, ok := Make(some(), 6, 4, panes, active)
			if !ok || len(f.Rows) != 4 || f.Rows[3][2] != (api.Cell{R: 124}) {
				t.Error(i, active, ok)
			}
			Make(some(), 1_000, 900, panes, active)
			Make(tree.One(3), 0, 7, panes, active)
			Make(tree.One(3), 7, 0, panes, active)
		}
	}
}

// 11.3: Row and Same do not panic, whatever frames and rows they are given.
func TestAskedNoPanic(t *testing.T) {
	var frames []api.Frame
	for i, n := range edges {
		other := edges[(7*i+2)%len(edges)]
		frames = append(frames, api.Frame{W: n, H: other, X: other, Y: n}, api.Frame{W: other, H: n, Rows: [][]api.Cell{nil, {}, {{R: rune(n), A: other}}}}, api.Frame{H: n, Rows: make([][]api.Cell, 9)})
	}
	for _, f := range append(frames, rich(), api.Frame{}) {
		for _, y := range edges {
			Row(f, y)
		}
		for _, g := range frames {
			if Same(f, g) != Same(g, f) || !Same(f, f) {
				t.Error(f, g)
			}
		}
	}
}
