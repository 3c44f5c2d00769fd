package tree

import (
	"math"
	"slices"
	"strconv"
	"testing"

	"polyptych/api"
)

// edges are numbers at a tree's and a window's bounds, and at the ends of int.
var edges = []int{
	math.MinInt, math.MinInt + 1, math.MinInt32, -1_000, -2, -1, 0, 1, 2, 3, 4, 5, 62, 63, 64,
	998, 999, 1_000, 1_001, 1_002, math.MaxInt32, 1 << 32, 1<<32 + 1, 1 << 62, math.MaxInt - 1, math.MaxInt,
}

// outside are the numbers that no side of a window is.
var outside = []int{math.MinInt, math.MinInt + 1, math.MinInt32, -1_000, -1, 1_001, 1_002, 1 << 32, 1<<32 + 9, math.MaxInt - 1, math.MaxInt}

// otherDirs are numbers that are no direction.
var otherDirs = []int{0, 3, 4, -1, -2, 1<<32 + 1, math.MinInt, math.MaxInt}

// shares are floats of every kind.
func shares() []float64 {
	return []float64{
		math.NaN(), -math.NaN(), math.Inf(1), math.Inf(-1), math.Copysign(0, -1), 0, math.SmallestNonzeroFloat64, -0.5, -1, -1e300,
		0.1, 0.25, 1.0 / 3, math.Nextafter(0.5, 0), 0.5, math.Nextafter(0.5, 1), 2.0 / 3, 0.75, 0.9, math.Nextafter(1, 0), 1, math.Nextafter(1, 2), 1.5, 7, 1e300, math.MaxFloat64,
	}
}

// plan is a tree told without numbers: a pane, or two plans beside (below) each other.
type plan struct {
	pane, dir, first int
	a, b             *plan
}

func pane(n int) *plan                  { return &plan{pane: n} }
func right(first int, a, b *plan) *plan { return &plan{dir: api.DRight, first: first, a: a, b: b} }
func down(first int, a, b *plan) *plan  { return &plan{dir: api.DDown, first: first, a: a, b: b} }

// some is 3 to the left of 5 above 4.
func some() *plan { return right(4, pane(3), down(2, pane(5), pane(4))) }

// nodes tells p by numbers, of which from is the first.
func (p *plan) nodes(from int) []api.Node {
	if p.a == nil {
		return []api.Node{{Pane: p.pane}}
	}
	a := p.a.nodes(from + 1)
	b := p.b.nodes(from + 1 + len(a))
	return slices.Concat([]api.Node{{Dir: p.dir, First: p.first, A: from + 1, B: from + 1 + len(a)}}, a, b)
}

func (p *plan) tree() api.Tree { return api.Tree{Nodes: p.nodes(0)} }

func (p *plan) copied() *plan {
	c := *p
	if p.a != nil {
		c.a, c.b = p.a.copied(), p.b.copied()
	}
	return &c
}

func (p *plan) panes() []int {
	if p.a == nil {
		return []int{p.pane}
	}
	return append(p.a.panes(), p.b.panes()...)
}

// leaf is where in p the pane n is, and above what it is a part of; nil, if it is not there.
func (p *plan) leaf(n int) (leaf, above *plan) {
	if p.a == nil {
		if p.pane == n {
			return p, nil
		}
		return nil, nil
	}
	for _, part := range []*plan{p.a, p.b} {
		if leaf, above := part.leaf(n); leaf != nil && above == nil {
			return leaf, p
		} else if leaf != nil {
			return leaf, above
		}
	}
	return nil, nil
}

func (p *plan) least() (w, h int) {
	if p.a == nil {
		return 1, 1
	}
	aw, ah := p.a.least()
	bw, bh := p.b.least()
	if p.dir == api.DRight {
		w, h = aw+bw+1, ah
		if bh > ah {
			h = bh
		}
		return w, h
	}
	w, h = aw, ah+bh+1
	if bw > aw {
		w = bw
	}
	return w, h
}

// places is what the chapter's words ask of Places, for the part of a window from x, y on.
func (p *plan) places(x, y, w, h int) (spots []api.Spot, borders []api.Rect, ok bool) {
	if p.a == nil {
		return []api.Spot{{Pane: p.pane, Rect: api.Rect{X: x, Y: y, W: w, H: h}}}, nil, true
	}
	a, b, border := api.Rect{X: x, Y: y, W: w, H: h}, api.Rect{X: x, Y: y, W: w, H: h}, api.Rect{X: x, Y: y, W: w, H: h}
	if p.dir == api.DRight {
		a.W, border.X, border.W, b.X, b.W = p.first, x+p.first, 1, x+p.first+1, w-p.first-1
	} else {
		a.H, border.Y, border.H, b.Y, b.H = p.first, y+p.first, 1, y+p.first+1, h-p.first-1
	}
	spotsA, bordersA, okA := p.a.places(a.X, a.Y, a.W, a.H)
	spotsB, bordersB, okB := p.b.places(b.X, b.Y, b.W, b.H)
	if !okA || !okB || p.dir == api.DRight && b.W < 1 || p.dir == api.DDown && b.H < 1 {
		return nil, nil, false
	}
	return append(spotsA, spotsB...), slices.Concat([]api.Rect{border}, bordersA, bordersB), true
}

// fit does to p what the chapter's words ask of Fit.
func (p *plan) fit(w, h int) {
	if p.a == nil {
		return
	}
	aw, ah := p.a.least()
	bw, bh := p.b.least()
	if p.dir == api.DRight {
		p.first = nearest(p.first, aw, w-1-bw)
		p.a.fit(p.first, h)
		p.b.fit(w-1-p.first, h)
		return
	}
	p.first = nearest(p.first, ah, h-1-bh)
	p.a.fit(w, p.first)
	p.b.fit(w, h-1-p.first)
}

// nearest is the number from least to most that is nearest to n.
func nearest(n, least, most int) int {
	if n < least {
		return least
	}
	if n > most {
		return most
	}
	return n
}

// names are the panes of plans in the order in which they stand there: neither rising nor falling.
var names = []int{3, 9, 1, 7, math.MaxInt, 2, 8}

// plans calls f with every plan of that many of the panes, each first being each of firsts.
func plans(panes, firsts []int, f func(p *plan)) {
	if len(panes) == 1 {
		f(pane(panes[0]))
		return
	}
	for n := 1; n < len(panes); n++ {
		plans(panes[:n], firsts, func(a *plan) {
			plans(panes[n:], firsts, func(b *plan) {
				for _, first := range firsts {
					f(right(first, a, b))
					f(down(first, a, b))
				}
			})
		})
	}
}

// smallPlans calls f with every plan of one to four panes and firsts of 1 to 3.
func smallPlans(f func(p *plan)) {
	for n := 1; n <= 4; n++ {
		plans(names[:n], []int{1, 2, 3}, f)
	}
}

// chains are plans of n panes that lean to either side, in both directions, and one that leans to none.
func chains(n int) []*plan {
	var out []*plan
	for _, fork := range []func(first int, a, b *plan) *plan{right, down} {
		ahead, behind := pane(1), pane(1)
		for i := 2; i <= n; i++ {
			ahead, behind = fork(i, ahead, pane(i)), fork(i, pane(i), behind)
		}
		out = append(out, ahead, behind, even(1, n, fork))
	}
	return out
}

func even(from, n int, fork func(first int, a, b *plan) *plan) *plan {
	if n == 1 {
		return pane(from)
	}
	return fork(n, even(from, n/2, fork), even(from+n/2, n-n/2, fork))
}

// check holds a tree that was answered against the nodes it must have; none, where it must be false.
func check(t *testing.T, got api.Tree, ok bool, want []api.Node, told ...any) {
	t.Helper()
	if !slices.Equal(got.Nodes, want) || ok != (len(want) > 0) {
		t.Errorf("%v: %v, %v, want %v", told, got.Nodes, ok, want)
	}
}

// okByWords is what the chapter's words ask of Ok, one by one.
func okByWords(nodes []api.Node) bool {
	parts := make([]int, len(nodes))
	panes := map[int]int{}
	for i, n := range nodes {
		if n.Pane > 0 && n.Dir == 0 && n.First == 0 && n.A == 0 && n.B == 0 {
			panes[n.Pane]++
			continue
		}
		if n.Pane != 0 || n.Dir != 1 && n.Dir != 2 || n.First < 1 || n.First > 1_000 || n.A <= i || n.B <= i || n.A >= len(nodes) || n.B >= len(nodes) {
			return false
		}
		parts[n.A]++
		parts[n.B]++
	}
	for i, n := range parts {
		if i == 0 && n != 0 || i > 0 && n != 1 {
			return false
		}
	}
	for _, n := range panes {
		if n != 1 {
			return false
		}
	}
	return len(nodes) >= 1 && len(nodes) <= 63 && standsInOrder(nodes)
}

// standsInOrder goes through nodes, of which each is a part of one above it, and tells whether they come in the order of their numbers.
func standsInOrder(nodes []api.Node) bool {
	next := 0
	var walk func(i int) bool
	walk = func(i int) bool {
		if i != next {
			return false
		}
		next++
		return nodes[i].Pane > 0 || walk(nodes[i].A) && walk(nodes[i].B)
	}
	return walk(0)
}

// bad are trees that are not Ok.
func bad() []api.Tree {
	leaf := func(n int) api.Node { return api.Node{Pane: n} }
	fork := func(dir, first, a, b int) api.Node { return api.Node{Dir: dir, First: first, A: a, B: b} }
	var out []api.Tree
	for _, l := range [][]api.Node{
		nil, {}, {{}}, {leaf(-1)}, {leaf(math.MinInt)}, {{Pane: 1, Dir: 1}}, {{Pane: 1, First: 1}}, {{Pane: 1, A: 1}}, {{Pane: 1, B: 1}}, {{Pane: 1, A: -1}}, {fork(1, 1, 0, 0)},
		{leaf(1), leaf(2)}, {leaf(1), leaf(2), leaf(3)}, {fork(1, 1, 1, 2)}, {fork(1, 1, 1, 2), leaf(1)}, {fork(1, 1, 1, 2), leaf(1), leaf(1)},
		{fork(0, 1, 1, 2), leaf(1), leaf(2)}, {fork(3, 1, 1, 2), leaf(1), leaf(2)}, {fork(-1, 1, 1, 2), leaf(1), leaf(2)}, {{Pane: 9, Dir: 1, First: 1, A: 1, B: 2}, leaf(1), leaf(2)}, {{Pane: -9, Dir: 1, First: 1, A: 1, B: 2}, leaf(1), leaf(2)},
		{fork(1, 0, 1, 2), leaf(1), leaf(2)}, {fork(1, -1, 1, 2), leaf(1), leaf(2)}, {fork(1, 1_001, 1, 2), leaf(1), leaf(2)},
		{fork(1, 1, 2, 1), leaf(1), leaf(2)}, {fork(1, 1, 1, 1), leaf(1), leaf(2)}, {fork(1, 1, 2, 2), leaf(1), leaf(2)}, {fork(1, 1, 0, 2), leaf(1), leaf(2)}, {fork(1, 1, 1, 0), leaf(1), leaf(2)}, {fork(1, 1, 1, 3), leaf(1), leaf(2)},
		{fork(1, 1, -1, 2), leaf(1), leaf(2)}, {fork(1, 1, 1, math.MaxInt), leaf(1), leaf(2)}, {fork(1, 1, math.MinInt, 2), leaf(1), leaf(2)}, {fork(1, 1, 1, 2), leaf(1), leaf(2), leaf(3)},
		{fork(1, 1, 1, 2), fork(1, 1, 0, 2), leaf(1)}, {fork(1, 1, 1, 2), fork(1, 1, 2, 2), leaf(1)}, {fork(1, 1, 1, 2), fork(1, 1, 1, 2), leaf(1)},
		{fork(1, 1, 1, 3), fork(1, 1, 2, 4), leaf(1), leaf(2), leaf(3)}, {fork(1, 1, 1, 4), fork(1, 1, 3, 2), leaf(1), leaf(2), leaf(3)}, {fork(1, 1, 1, 2), leaf(1), fork(1, 1, 4, 3), leaf(2), leaf(3)}, {fork(1, 1, 1, 4), fork(1, 1, 2, 3), leaf(1), leaf(2)},
		{fork(1, 1, 1, 4), fork(1, 1, 2, 3), leaf(1), leaf(2), leaf(1)}, {fork(1, 1, 1, 2), leaf(5), fork(1, 1, 3, 4), leaf(2), leaf(5)},
	} {
		out = append(out, api.Tree{Nodes: l})
	}
	for _, p := range chains(33) {
		out = append(out, p.tree(), api.Tree{Nodes: append(p.tree().Nodes, leaf(99))}, api.Tree{Nodes: p.tree().Nodes[:64]})
	}
	return out
}

// 10.1: One: a leaf, of 1 at least.
func TestOne(t *testing.T) {
	for _, n := range edges {
		want := n
		if n < 1 {
			want = 1
		}
		got := One(n)
		if !slices.Equal(got.Nodes, []api.Node{{Pane: want}}) || !Ok(got) || !slices.Equal(Panes(got), []int{want}) {
			t.Errorf("One(%d): %v", n, got)
		}
		if w, h := Least(got); w != 1 || h != 1 {
			t.Errorf("Least of One(%d): %d, %d", n, w, h)
		}
	}
}

// 10.1: Ok, written out.
func TestOkWrittenOut(t *testing.T) {
	for i, l := range [][]api.Node{
		{{Pane: 1}}, {{Pane: math.MaxInt}}, {{Dir: 1, First: 1, A: 1, B: 2}, {Pane: 2}, {Pane: 1}}, {{Dir: 2, First: 1_000, A: 1, B: 2}, {Pane: 2}, {Pane: 1}},
		{{Dir: 2, First: 1, A: 1, B: 4}, {Dir: 1, First: 1, A: 2, B: 3}, {Pane: 1}, {Pane: 2}, {Pane: 3}},
		{{Dir: 2, First: 1, A: 1, B: 2}, {Pane: 1}, {Dir: 2, First: 9, A: 3, B: 4}, {Pane: 2}, {Pane: 3}},
	} {
		if !Ok(api.Tree{Nodes: l}) || !okByWords(l) {
			t.Error(i, l)
		}
	}
	for i, x := range bad() {
		if Ok(x) || okByWords(x.Nodes) {
			t.Error(i, x)
		}
	}
}

// checkOk holds Ok against the chapter's words, and answers whether nodes are a tree.
func checkOk(t *testing.T, nodes []api.Node) bool {
	t.Helper()
	want := okByWords(nodes)
	if got := Ok(api.Tree{Nodes: nodes}); got != want {
		t.Errorf("Ok(%v): %v", nodes, got)
	}
	return want
}

// 10.1: Ok of every list of up to three nodes of many kinds.
func TestOkOfFewNodes(t *testing.T) {
	kinds := []api.Node{{}, {Pane: 1}, {Pane: 2}, {Pane: 3}, {Pane: -1}, {Pane: 1, Dir: 1}, {Pane: 1, First: 1}, {Pane: 1, A: 1}, {Pane: 1, B: 2}, {Pane: 1, Dir: 1, First: 1, A: 1, B: 2}}
	for dir := -1; dir <= 3; dir++ {
		for _, first := range []int{-1, 0, 1, 1_000, 1_001} {
			kinds = append(kinds, api.Node{Dir: dir, First: first, A: 1, B: 2})
		}
	}
	for a := -1; a <= 3; a++ {
		for b := -1; b <= 3; b++ {
			kinds = append(kinds, api.Node{Dir: 1, First: 1, A: a, B: b})
		}
	}
	good := 0
	for _, x := range kinds {
		checkOk(t, []api.Node{x})
		for _, y := range kinds {
			checkOk(t, []api.Node{x, y})
			for _, z := range kinds {
				if checkOk(t, []api.Node{x, y, z}) {
					good++
				}
			}
		}
	}
	if good == 0 {
		t.Error("no list was a tree")
	}
}

// 10.1: Ok of every way in which up to three of up to seven nodes may name their parts.
func TestOkOfEveryOrder(t *testing.T) {
	for length, want := range map[int]int{1: 1, 3: 1, 4: 0, 5: 2, 6: 0, 7: 5} {
		good := 0
		nodes := make([]api.Node, length)
		var fill func(i, forks int)
		fill = func(i, forks int) {
			if i == length {
				if forks == 0 && checkOk(t, nodes) {
					good++
				}
				return
			}
			nodes[i] = api.Node{Pane: i + 1}
			fill(i+1, forks)
			for a := 1; forks > 0 && a < length; a++ {
				for b := 1; b < length; b++ {
					nodes[i] = api.Node{Dir: 2, First: 5, A: a, B: b}
					fill(i+1, forks-1)
				}
			}
		}
		fill(0, length/2)
		if good != want {
			t.Errorf("%d trees of %d nodes, want %d", good, length, want)
		}
	}
}

// 10.1: Ok of trees of which one number is another.
func TestOkOfOneNumber(t *testing.T) {
	for _, p := range append(chains(6), some(), right(1, down(2, pane(4), right(3, pane(1), pane(2))), down(4, pane(9), pane(5)))) {
		nodes := p.tree().Nodes
		if !checkOk(t, nodes) {
			t.Error(nodes)
		}
		for i := range nodes {
			for field := range 5 {
				for n := -2; n <= 14; n++ {
					checkTurned(t, nodes, i, field, n)
				}
				for _, n := range edges {
					checkTurned(t, nodes, i, field, n)
				}
			}
		}
	}
}

// turn answers nodes with one field of node i another.
func turn(nodes []api.Node, i, field, n int) []api.Node {
	out := slices.Clone(nodes)
	x := &out[i]
	*[]*int{&x.Pane, &x.Dir, &x.First, &x.A, &x.B}[field] = n
	return out
}

func checkTurned(t *testing.T, nodes []api.Node, i, field, n int) {
	t.Helper()
	checkOk(t, turn(nodes, i, field, n))
}

// 10.1: there are 63 nodes at most, however they stand.
func TestOkBound(t *testing.T) {
	for n := 1; n <= 40; n++ {
		for i, p := range chains(n) {
			if got := Ok(p.tree()); got != (n <= 32) {
				t.Errorf("chain %d of %d panes: %v", i, n, got)
			}
		}
	}
}

// 10.1: Panes are told from the first part to the second one, all the way down.
func TestPanes(t *testing.T) {
	if got := Panes(some().tree()); !slices.Equal(got, []int{3, 5, 4}) {
		t.Error(got)
	}
	smallPlans(func(p *plan) {
		if got := Panes(p.tree()); !slices.Equal(got, p.panes()) {
			t.Error(p.tree(), got)
		}
	})
	for _, p := range chains(32) {
		if got := Panes(p.tree()); !slices.Equal(got, p.panes()) || len(got) != 32 {
			t.Error(p.tree(), got)
		}
	}
}

// 10.1: Least, written out.
func TestLeastWrittenOut(t *testing.T) {
	for i, x := range []struct {
		p    *plan
		w, h int
	}{
		{pane(7), 1, 1}, {right(9, pane(1), pane(2)), 3, 1}, {down(9, pane(1), pane(2)), 1, 3}, {some(), 3, 3},
		{right(1, right(1, pane(1), pane(2)), right(1, pane(3), pane(4))), 7, 1}, {down(1, right(1, pane(1), pane(2)), pane(3)), 3, 3}, {down(1, pane(3), right(1, pane(1), pane(2))), 3, 3},
		{right(1, down(1, pane(1), down(1, pane(2), pane(3))), down(1, pane(4), pane(5))), 3, 5}, {right(1, down(1, pane(4), pane(5)), down(1, pane(1), down(1, pane(2), pane(3)))), 3, 5},
		{down(1, right(1, pane(1), right(1, pane(2), pane(3))), right(1, pane(4), pane(5))), 5, 3},
	} {
		if w, h := Least(x.p.tree()); w != x.w || h != x.h {
			t.Error(i, w, h)
		}
	}
	for i, p := range chains(32) {
		w, h := Least(p.tree())
		if want := [2]int{63, 1}; i < 3 && [2]int{w, h} != want || i >= 3 && [2]int{h, w} != want {
			t.Error(i, w, h)
		}
	}
}

// 10.1, 10.2: a window as large as Least has Places for some Firsts, and none for any if it is smaller; Fit finds them.
func TestLeastIsLeast(t *testing.T) {
	for n := 1; n <= 4; n++ {
		fits := map[string]map[[2]int]bool{}
		plans(names[:n], []int{1, 2, 3, 4, 5}, func(p *plan) {
			shape := shapeOf(p)
			if fits[shape] == nil {
				fits[shape] = map[[2]int]bool{}
			}
			for w := range 8 {
				for h := range 8 {
					if _, _, ok := Places(p.tree(), w, h); ok {
						fits[shape][[2]int{w, h}] = true
					}
				}
			}
		})
		plans(names[:n], []int{1, 3}, func(p *plan) {
			leastW, leastH := Least(p.tree())
			for w := 1; w < 8; w++ {
				for h := 1; h < 8; h++ {
					large := w >= leastW && h >= leastH
					if _, ok := Fit(p.tree(), w, h); ok != large || fits[shapeOf(p)][[2]int{w, h}] != large {
						t.Errorf("%s is %d, %d at least: %d, %d, %v", shapeOf(p), leastW, leastH, w, h, ok)
					}
				}
			}
		})
	}
}

// shapeOf tells p without its Firsts.
func shapeOf(p *plan) string {
	if p.a == nil {
		return strconv.Itoa(p.pane)
	}
	return "(" + shapeOf(p.a) + []string{"", "|", "-"}[p.dir] + shapeOf(p.b) + ")"
}

// 10.1, 10.2, 10.3: of trees that are not Ok: false, none, 0.
func TestNotOk(t *testing.T) {
	for _, x := range bad() {
		checkNone(t, x)
	}
	for i := range some().tree().Nodes {
		for field := range 5 {
			for _, n := range edges {
				if x := turn(some().tree().Nodes, i, field, n); !okByWords(x) {
					checkNone(t, api.Tree{Nodes: x})
				}
			}
		}
	}
}

func checkNone(t *testing.T, x api.Tree) {
	t.Helper()
	panes := Panes(x)
	w, h := Least(x)
	if Ok(x) || len(panes) != 0 || w != 0 || h != 0 {
		t.Error(x, panes, w, h)
	}
	for _, size := range [][2]int{{50, 50}, {0, 0}, {1, 1}, {9, 6}, {1_000, 1_000}} {
		spots, borders, ok := Places(x, size[0], size[1])
		if ok || len(spots) != 0 || len(borders) != 0 {
			t.Error("Places", x, spots, borders, ok)
		}
		got, ok := Fit(x, size[0], size[1])
		check(t, got, ok, nil, "Fit", x)
		for at := -1; at <= 6; at++ {
			got, ok = Split(x, size[0], size[1], at, 77, api.DRight, 0.5)
			check(t, got, ok, nil, "Split", x, at)
			got, ok = Remove(x, size[0], size[1], at)
			check(t, got, ok, nil, "Remove", x, at)
			for other := -1; other <= 6; other++ {
				got, ok = Swap(x, at, other)
				check(t, got, ok, nil, "Swap", x, at, other)
			}
		}
	}
}

// checkPlaces holds Places against the chapter's words.
func checkPlaces(t *testing.T, p *plan, w, h int) {
	t.Helper()
	wantSpots, wantBorders, wantOk := p.places(0, 0, w, h)
	spots, borders, ok := Places(p.tree(), w, h)
	if !slices.Equal(spots, wantSpots) || !slices.Equal(borders, wantBorders) || ok != wantOk {
		t.Errorf("Places(%v, %d, %d): %v, %v, %v, want %v, %v", p.tree(), w, h, spots, borders, ok, wantSpots, wantBorders)
	}
}

// checkNowhere is what Places must answer where there are none.
func checkNowhere(t *testing.T, x api.Tree, w, h int) {
	t.Helper()
	if spots, borders, ok := Places(x, w, h); ok || len(spots) != 0 || len(borders) != 0 {
		t.Errorf("Places(%v, %d, %d): %v, %v, %v", x, w, h, spots, borders, ok)
	}
}

// 10.2: Places, written out.
func TestPlacesWrittenOut(t *testing.T) {
	spots, borders, ok := Places(some().tree(), 9, 6)
	if !ok || !slices.Equal(spots, []api.Spot{{Pane: 3, Rect: api.Rect{W: 4, H: 6}}, {Pane: 5, Rect: api.Rect{X: 5, W: 4, H: 2}}, {Pane: 4, Rect: api.Rect{X: 5, Y: 3, W: 4, H: 3}}}) {
		t.Error(spots, ok)
	}
	if !slices.Equal(borders, []api.Rect{{X: 4, W: 1, H: 6}, {X: 5, Y: 2, W: 4, H: 1}}) {
		t.Error(borders)
	}
	spots, borders, ok = Places(down(2, right(3, pane(8), pane(6)), right(1, pane(7), pane(5))).tree(), 7, 9)
	if !ok || !slices.Equal(spots, []api.Spot{{Pane: 8, Rect: api.Rect{W: 3, H: 2}}, {Pane: 6, Rect: api.Rect{X: 4, W: 3, H: 2}}, {Pane: 7, Rect: api.Rect{Y: 3, W: 1, H: 6}}, {Pane: 5, Rect: api.Rect{X: 2, Y: 3, W: 5, H: 6}}}) {
		t.Error(spots, ok)
	}
	if !slices.Equal(borders, []api.Rect{{Y: 2, W: 7, H: 1}, {X: 3, W: 1, H: 2}, {X: 1, Y: 3, W: 1, H: 6}}) {
		t.Error(borders)
	}
	checkNowhere(t, some().tree(), 5, 6)
	checkNowhere(t, some().tree(), 9, 3)
	if _, _, ok := Places(some().tree(), 6, 4); !ok {
		t.Error("it fits just so")
	}
}

// 10.2: Places of all small trees in all small windows, those without rows or columns, too.
func TestPlaces(t *testing.T) {
	smallPlans(func(p *plan) {
		for w := range 10 {
			for h := range 10 {
				checkPlaces(t, p, w, h)
			}
		}
	})
	for _, p := range chains(32) {
		for _, size := range [][2]int{{1_000, 1_000}, {999, 1_000}, {1_000, 1}, {1, 1_000}, {558, 558}, {559, 559}, {560, 560}} {
			checkPlaces(t, p, size[0], size[1])
			if w, h := p.least(); size[0] >= w && size[1] >= h {
				fitted := p.copied()
				fitted.fit(size[0], size[1])
				checkPlaces(t, fitted, size[0], size[1])
			}
		}
	}
}

// 10.2: a window is 0 to 1,000 wide and high; one that has no columns or rows has a place for one pane all the same.
func TestPlacesAtTheBounds(t *testing.T) {
	for _, size := range [][2]int{{0, 0}, {0, 1}, {1, 0}, {1_000, 0}, {0, 1_000}, {1_000, 1_000}, {999, 1}} {
		checkPlaces(t, pane(4), size[0], size[1])
		checkPlaces(t, some(), size[0], size[1])
		checkPlaces(t, right(998, pane(1), pane(2)), size[0], size[1])
		checkPlaces(t, right(999, pane(1), pane(2)), size[0], size[1])
		checkPlaces(t, down(998, pane(1), pane(2)), size[0], size[1])
		checkPlaces(t, down(1_000, pane(1), pane(2)), size[0], size[1])
	}
	if spots, borders, ok := Places(right(2, pane(1), pane(2)).tree(), 4, 0); !ok || !slices.Equal(spots, []api.Spot{{Pane: 1, Rect: api.Rect{W: 2}}, {Pane: 2, Rect: api.Rect{X: 3, W: 1}}}) || !slices.Equal(borders, []api.Rect{{X: 2, W: 1}}) {
		t.Error(spots, borders, ok)
	}
	for _, n := range outside {
		for _, good := range []int{0, 1, 9, 1_000} {
			for _, p := range []*plan{pane(4), some(), right(1, pane(1), pane(2)), down(1, pane(1), pane(2))} {
				checkNowhere(t, p.tree(), n, good)
				checkNowhere(t, p.tree(), good, n)
				checkNowhere(t, p.tree(), n, n)
			}
		}
	}
}

// 10.2: Fit, written out.
func TestFitWrittenOut(t *testing.T) {
	for i, x := range []struct {
		w, h, first, second int
	}{{9, 6, 4, 2}, {100, 50, 4, 2}, {1_000, 1_000, 4, 2}, {6, 6, 4, 2}, {5, 6, 3, 2}, {4, 6, 2, 2}, {3, 6, 1, 2}, {3, 4, 1, 2}, {3, 3, 1, 1}, {9, 3, 4, 1}} {
		got, ok := Fit(some().tree(), x.w, x.h)
		check(t, got, ok, right(x.first, pane(3), down(x.second, pane(5), pane(4))).tree().Nodes, i)
	}
	for i, x := range [][2]int{{2, 6}, {9, 2}, {2, 2}, {0, 0}, {0, 9}, {9, 0}, {1_001, 9}, {9, 1_001}, {-9, 9}, {9, -9}} {
		got, ok := Fit(some().tree(), x[0], x[1])
		check(t, got, ok, nil, i)
	}
	// A's least holds below, what B needs above; what is below is held to what is left then.
	deep := right(1, right(9, pane(1), pane(2)), right(9, pane(3), pane(4)))
	for _, x := range [][4]int{{7, 3, 1, 1}, {8, 3, 1, 2}, {9, 3, 1, 3}, {14, 3, 1, 8}, {15, 3, 1, 9}, {20, 3, 1, 9}} {
		got, ok := Fit(deep.tree(), x[0], 1)
		check(t, got, ok, right(x[1], right(x[2], pane(1), pane(2)), right(x[3], pane(3), pane(4))).tree().Nodes, x)
	}
	wide := right(900, right(9, pane(1), pane(2)), right(9, pane(3), pane(4)))
	for _, x := range [][4]int{{7, 3, 1, 1}, {8, 4, 2, 1}, {15, 11, 9, 1}, {500, 496, 9, 1}, {904, 900, 9, 1}, {914, 900, 9, 9}} {
		got, ok := Fit(wide.tree(), x[0], 1)
		check(t, got, ok, right(x[1], right(x[2], pane(1), pane(2)), right(x[3], pane(3), pane(4))).tree().Nodes, x)
	}
}

// checkFit holds Fit against the chapter's words: what fits has Places, and stays if it is fitted again.
func checkFit(t *testing.T, p *plan, w, h int) {
	t.Helper()
	got, ok := Fit(p.tree(), w, h)
	leastW, leastH := p.least()
	if w < leastW || h < leastH || w > 1_000 || h > 1_000 {
		check(t, got, ok, nil, "Fit", p.tree(), w, h)
		return
	}
	want := p.copied()
	want.fit(w, h)
	check(t, got, ok, want.tree().Nodes, "Fit", p.tree(), w, h)
	if _, _, fits := Places(got, w, h); !Ok(got) || !fits {
		t.Errorf("Fit(%v, %d, %d): %v has no places", p.tree(), w, h, got)
	}
	again, ok := Fit(got, w, h)
	check(t, again, ok, got.Nodes, "Fit again", w, h)
	if _, _, fits := Places(p.tree(), w, h); fits && !slices.Equal(got.Nodes, p.tree().Nodes) {
		t.Errorf("Fit(%v, %d, %d): %v, though it fits", p.tree(), w, h, got)
	}
}

// 10.2: Fit of all small trees to all small windows, and of great ones.
func TestFit(t *testing.T) {
	smallPlans(func(p *plan) {
		for w := -1; w < 10; w++ {
			for h := -1; h < 10; h++ {
				checkFit(t, p, w, h)
			}
		}
	})
	for n := 1; n <= 4; n++ {
		plans(names[:n], []int{1, 7, 1_000}, func(p *plan) {
			for _, w := range []int{1, 3, 5, 7, 8, 9, 12, 100, 999, 1_000, 1_001, math.MaxInt, math.MinInt} {
				for _, h := range []int{1, 3, 5, 7, 8, 9, 12, 100, 999, 1_000, 1_001, math.MaxInt, math.MinInt} {
					checkFit(t, p, w, h)
				}
			}
		})
	}
	for _, p := range chains(32) {
		for _, side := range []int{62, 63, 64, 99, 500, 999, 1_000} {
			checkFit(t, p, side, side)
			checkFit(t, p, side, 1)
			checkFit(t, p, 1, side)
		}
	}
}

// told is the First that a split of that length by r must have.
func told(length int, r float64) int {
	n := length - 1
	switch {
	case r != r:
		n = (length - 1) / 2
	case r <= 0:
		n = 0
	case r <= 1:
		n = int(math.Floor(r * float64(length-1)))
	}
	return nearest(n, 1, length-2)
}

// split is what the chapter's words ask of Split; nil, where it is false.
func (p *plan) split(w, h, at, name, dir int, r float64) []api.Node {
	spots, _, ok := p.places(0, 0, w, h)
	if !ok || name < 1 || slices.Contains(p.panes(), name) || 2*len(p.panes())+1 > 63 {
		return nil
	}
	for _, s := range spots {
		if s.Pane != at {
			continue
		}
		length := 0
		if dir == api.DRight {
			length = s.Rect.W
		} else if dir == api.DDown {
			length = s.Rect.H
		}
		if length < 3 {
			return nil
		}
		out := p.copied()
		leaf, _ := out.leaf(at)
		*leaf = plan{dir: dir, first: told(length, r), a: pane(at), b: pane(name)}
		return out.tree().Nodes
	}
	return nil
}

// checkSplit holds Split against the chapter's words; what comes has Places in the same window.
func checkSplit(t *testing.T, p *plan, w, h, at, name, dir int, r float64) {
	t.Helper()
	got, ok := Split(p.tree(), w, h, at, name, dir, r)
	check(t, got, ok, p.split(w, h, at, name, dir, r), "Split", p.tree(), w, h, at, name, dir, r)
	if _, _, fits := Places(got, w, h); ok && (!Ok(got) || !fits) {
		t.Errorf("Split(%v, %d, %d, %d, %d, %d, %v): %v", p.tree(), w, h, at, name, dir, r, got)
	}
}

// 10.3: Split, written out.
func TestSplitWrittenOut(t *testing.T) {
	for i, x := range []struct {
		at, name, dir int
		r             float64
		want          *plan
	}{
		{3, 9, api.DRight, 0.5, right(4, right(1, pane(3), pane(9)), down(2, pane(5), pane(4)))},
		{3, 9, api.DDown, 0.5, right(4, down(2, pane(3), pane(9)), down(2, pane(5), pane(4)))},
		{4, 1, api.DRight, 0, right(4, pane(3), down(2, pane(5), right(1, pane(4), pane(1))))},
		{5, 1, api.DRight, 7, right(4, pane(3), down(2, right(2, pane(5), pane(1)), pane(4)))},
		{4, 1, api.DDown, math.NaN(), right(4, pane(3), down(2, pane(5), down(1, pane(4), pane(1))))},
		{3, math.MaxInt, api.DDown, 0.8, right(4, down(4, pane(3), pane(math.MaxInt)), down(2, pane(5), pane(4)))},
		{3, 9, api.DDown, 0.79, right(4, down(3, pane(3), pane(9)), down(2, pane(5), pane(4)))},
	} {
		got, ok := Split(some().tree(), 9, 6, x.at, x.name, x.dir, x.r)
		check(t, got, ok, x.want.tree().Nodes, i)
	}
	got, ok := Split(One(5), 3, 1, 5, 2, api.DRight, 1)
	check(t, got, ok, []api.Node{{Dir: 1, First: 1, A: 1, B: 2}, {Pane: 5}, {Pane: 2}})
	got, ok = Split(One(5), 1_000, 1_000, 5, 2, api.DDown, 1)
	check(t, got, ok, []api.Node{{Dir: 2, First: 998, A: 1, B: 2}, {Pane: 5}, {Pane: 2}})
}

// 10.3: all that makes Split false, each alone.
func TestSplitFalse(t *testing.T) {
	type call struct {
		w, h, at, name, dir int
	}
	good := call{9, 6, 3, 9, api.DRight}
	var calls []call
	with := func(change func(c *call)) {
		c := good
		change(&c)
		calls = append(calls, c)
	}
	for _, n := range outside {
		with(func(c *call) { c.w = n })
		with(func(c *call) { c.h = n })
	}
	for _, n := range []int{5, 4, 1, 0} {
		with(func(c *call) { c.w = n })
	}
	for _, n := range []int{3, 2, 1, 0} {
		with(func(c *call) { c.h = n }) // 3 itself has room, but 5 and 4 have none
	}
	for _, n := range []int{0, 1, 2, 6, 9, -1, -3, math.MinInt, math.MaxInt} {
		with(func(c *call) { c.at = n })
	}
	for _, n := range []int{0, -1, -9, 3, 4, 5, math.MinInt} {
		with(func(c *call) { c.name = n })
	}
	for _, n := range otherDirs {
		with(func(c *call) { c.dir = n })
	}
	with(func(c *call) { c.at, c.dir = 5, api.DDown }) // it has two rows
	for _, r := range shares() {
		if _, ok := Split(some().tree(), good.w, good.h, good.at, good.name, good.dir, r); !ok {
			t.Error(r)
		}
		for _, c := range calls {
			got, ok := Split(some().tree(), c.w, c.h, c.at, c.name, c.dir, r)
			check(t, got, ok, nil, c, r)
		}
	}
}

// 10.3: a place must be 3 long in dir; how long it is across is one.
func TestSplitPlace(t *testing.T) {
	for along := range 12 {
		for across := range 12 {
			for _, r := range shares() {
				checkSplit(t, pane(2), along, across, 2, 7, api.DRight, r)
				checkSplit(t, pane(2), across, along, 2, 7, api.DDown, r)
				if _, ok := Split(One(2), along, across, 2, 7, api.DRight, r); ok != (along >= 3) {
					t.Error(along, across, r)
				}
				if _, ok := Split(One(2), across, along, 2, 7, api.DDown, r); ok != (along >= 3) {
					t.Error(across, along, r)
				}
			}
		}
	}
}

// 10.3: First is of what the place has less 1, whatever the share.
func TestSplitShare(t *testing.T) {
	for length := 1; length <= 1_000; length++ {
		for _, r := range shares() {
			checkSplit(t, pane(2), length, 1, 2, 7, api.DRight, r)
			checkSplit(t, pane(2), 1, length, 2, 7, api.DDown, r)
		}
	}
}

// 10.3: Split of every pane of all small trees.
func TestSplit(t *testing.T) {
	smallPlans(func(p *plan) {
		for _, size := range [][2]int{{3, 3}, {4, 7}, {5, 5}, {9, 6}, {11, 12}} {
			for _, at := range append(p.panes(), 5) {
				for dir := range 4 {
					for _, r := range []float64{0, 0.4, 0.5, 1, math.NaN()} {
						checkSplit(t, p, size[0], size[1], at, 4, dir, r)
					}
				}
				checkSplit(t, p, size[0], size[1], at, p.panes()[0], api.DRight, 0.5)
				checkSplit(t, p, size[0], size[1], at, 0, api.DRight, 0.5)
			}
		}
	})
}

// 10.3: 63 nodes are the most.
func TestSplitBound(t *testing.T) {
	for n := 30; n <= 33; n++ {
		for i, p := range chains(n) {
			p.fit(1_000, 1_000)
			room := 0
			for at := 1; at <= n; at++ {
				for _, dir := range []int{api.DRight, api.DDown} {
					got, ok := Split(p.tree(), 1_000, 1_000, at, 99, dir, 0.5)
					if ok {
						room++
						if len(got.Nodes) != 2*n+1 {
							t.Error(i, n, at, got)
						}
					}
					if n <= 32 {
						checkSplit(t, p, 1_000, 1_000, at, 99, dir, 0.5)
					}
				}
			}
			if (room > 0) != (n <= 31) {
				t.Errorf("chain %d of %d panes: %d were split", i, n, room)
			}
		}
	}
}

// remove is what the chapter's words ask of Remove; nil, where it is false.
func (p *plan) remove(w, h, name int) []api.Node {
	out := p.copied()
	leaf, above := out.leaf(name)
	if leaf == nil || above == nil {
		return nil
	}
	if above.a == leaf {
		*above = *above.b
	} else {
		*above = *above.a
	}
	leastW, leastH := out.least()
	if w < leastW || h < leastH || w > 1_000 || h > 1_000 {
		return nil
	}
	out.fit(w, h)
	return out.tree().Nodes
}

// checkRemove holds Remove against the chapter's words; what comes has Places in the window.
func checkRemove(t *testing.T, p *plan, w, h, name int) {
	t.Helper()
	got, ok := Remove(p.tree(), w, h, name)
	check(t, got, ok, p.remove(w, h, name), "Remove", p.tree(), w, h, name)
	if _, _, fits := Places(got, w, h); ok && (!Ok(got) || !fits) {
		t.Errorf("Remove(%v, %d, %d, %d): %v", p.tree(), w, h, name, got)
	}
}

// 10.3: Remove, written out.
func TestRemoveWrittenOut(t *testing.T) {
	for i, x := range []struct {
		w, h, name int
		want       *plan
	}{
		{9, 6, 3, down(2, pane(5), pane(4))}, {9, 6, 5, right(4, pane(3), pane(4))}, {9, 6, 4, right(4, pane(3), pane(5))},
		{3, 6, 5, right(1, pane(3), pane(4))}, {1, 3, 3, down(1, pane(5), pane(4))}, {3, 1, 4, right(1, pane(3), pane(5))}, {1_000, 1_000, 3, down(2, pane(5), pane(4))},
	} {
		got, ok := Remove(some().tree(), x.w, x.h, x.name)
		check(t, got, ok, x.want.tree().Nodes, i)
	}
	for i, x := range [][3]int{{9, 2, 3}, {2, 9, 4}, {2, 9, 5}, {0, 9, 3}, {9, 0, 5}, {1_001, 9, 3}, {9, 1_001, 3}, {-1, 9, 3}, {9, 6, 1}, {9, 6, 0}, {9, 6, -3}, {9, 6, math.MinInt}, {9, 6, math.MaxInt}} {
		got, ok := Remove(some().tree(), x[0], x[1], x[2])
		check(t, got, ok, nil, i)
	}
	got, ok := Remove(One(3), 9, 9, 3)
	check(t, got, ok, nil, "the only one")
	got, ok = Remove(One(3), 9, 9, 0)
	check(t, got, ok, nil, "none")
}

// 10.3: Remove of every pane of all small trees.
func TestRemove(t *testing.T) {
	smallPlans(func(p *plan) {
		for _, size := range [][2]int{{1, 1}, {1, 5}, {3, 1}, {3, 3}, {4, 5}, {5, 3}, {9, 6}, {1_000, 1_000}, {1_001, 5}, {5, 1_001}, {0, 0}, {-1, 5}} {
			for _, name := range append(p.panes(), 5, 0, -1) {
				checkRemove(t, p, size[0], size[1], name)
			}
		}
	})
	for _, p := range append(chains(32), chains(7)...) {
		for name := range 34 {
			checkRemove(t, p, 1_000, 1_000, name)
			checkRemove(t, p, 61, 61, name)
			checkRemove(t, p, 60, 60, name)
		}
	}
}

// 10.3: what was split and removed again is as it was, where it fits.
func TestSplitAndRemove(t *testing.T) {
	smallPlans(func(p *plan) {
		for _, at := range p.panes() {
			for _, dir := range []int{api.DRight, api.DDown} {
				got, ok := Split(p.tree(), 14, 13, at, 4, dir, 0.5)
				if !ok {
					continue
				}
				back, ok := Remove(got, 14, 13, 4)
				check(t, back, ok, p.tree().Nodes, p.tree(), at, dir)
			}
		}
	})
}

// 10.3: Swap, written out.
func TestSwapWrittenOut(t *testing.T) {
	for i, x := range []struct {
		a, b int
		want *plan
	}{
		{3, 4, right(4, pane(4), down(2, pane(5), pane(3)))}, {4, 3, right(4, pane(4), down(2, pane(5), pane(3)))},
		{5, 4, right(4, pane(3), down(2, pane(4), pane(5)))}, {3, 5, right(4, pane(5), down(2, pane(3), pane(4)))}, {3, 3, some()}, {5, 5, some()},
	} {
		got, ok := Swap(some().tree(), x.a, x.b)
		check(t, got, ok, x.want.tree().Nodes, i)
	}
	for i, x := range [][2]int{{3, 9}, {9, 3}, {9, 9}, {3, 0}, {0, 3}, {0, 0}, {-1, -1}, {3, -3}, {-3, 3}, {1, 2}, {math.MinInt, 4}, {4, math.MaxInt}} {
		got, ok := Swap(some().tree(), x[0], x[1])
		check(t, got, ok, nil, i)
	}
	got, ok := Swap(One(3), 3, 3)
	check(t, got, ok, One(3).Nodes, "the only one")
}

// 10.3: Swap of any two panes of all small trees.
func TestSwap(t *testing.T) {
	smallPlans(func(p *plan) {
		names := append(p.panes(), 5, 0, -1)
		for i, a := range names {
			for k, b := range names {
				got, ok := Swap(p.tree(), a, b)
				if i >= len(p.panes()) || k >= len(p.panes()) {
					check(t, got, ok, nil, "Swap", p.tree(), a, b)
					continue
				}
				want := p.copied()
				leafA, _ := want.leaf(a)
				leafB, _ := want.leaf(b)
				leafA.pane, leafB.pane = b, a
				check(t, got, ok, want.tree().Nodes, "Swap", p.tree(), a, b)
			}
		}
	})
}

// checkWhole asks each place of the window whether it is in just one pane or border, and in none beside the window.
func checkWhole(t *testing.T, x api.Tree, w, h int) {
	t.Helper()
	spots, borders, ok := Places(x, w, h)
	if !ok {
		return
	}
	all := slices.Clone(borders)
	for _, s := range spots {
		all = append(all, s.Rect)
	}
	in := make([]int, w*h)
	for _, r := range all {
		if r.X < 0 || r.Y < 0 || r.W < 0 || r.H < 0 || r.X+r.W > w || r.Y+r.H > h || r.W*r.H == 0 && w*h > 0 {
			t.Fatalf("%v in %d, %d: %v", x, w, h, r)
		}
		for c := r.X; c < r.X+r.W; c++ {
			for y := r.Y; y < r.Y+r.H; y++ {
				in[y*w+c]++
			}
		}
	}
	for place, n := range in {
		if n != 1 {
			t.Fatalf("%v in %d, %d: %d, %d is in %d of them", x, w, h, place%w, place/w, n)
		}
	}
}

// 10.4, W2: panes and borders of all small trees are the whole window, and never meet.
func TestWhole(t *testing.T) {
	smallPlans(func(p *plan) {
		for w := range 10 {
			for h := range 10 {
				checkWhole(t, p.tree(), w, h)
			}
		}
	})
	for _, p := range chains(32) {
		for _, size := range [][2]int{{1_000, 1_000}, {63, 63}, {100, 64}, {999, 71}} {
			if x, ok := Fit(p.tree(), size[0], size[1]); ok {
				checkWhole(t, x, size[0], size[1])
			} else {
				t.Error(p.tree(), size)
			}
		}
	}
}

// picks answers numbers of which none is told by the ones ahead of it at first sight, the same ones each time.
func picks(seed uint64) func(n int) int {
	return func(n int) int {
		seed = seed*6364136223846793005 + 1442695040888963407
		return int(seed >> 33 % uint64(n))
	}
}

// 10.4, W2: behind any rows of calls, panes and borders are the whole window; each call is held against the chapter's words.
func TestWholeBehindManyCalls(t *testing.T) {
	kinds := map[string]int{}
	for seed := range uint64(60) {
		pick := picks(seed)
		p, w, h := pane(1), 1+pick(90), 1+pick(60)
		for range 150 {
			panes := p.panes()
			a, b := panes[pick(len(panes))], panes[pick(len(panes))]
			name, dir, r := 1+pick(50), pick(3), float64(pick(12))/10
			var got api.Tree
			var ok bool
			var want []api.Node
			kind := []string{"Split", "Split", "Split", "Remove", "Swap", "Fit"}[pick(6)]
			switch kind {
			case "Split":
				got, ok = Split(p.tree(), w, h, a, name, dir, r)
				want = p.split(w, h, a, name, dir, r)
			case "Remove":
				got, ok = Remove(p.tree(), w, h, a)
				want = p.remove(w, h, a)
			case "Swap":
				got, ok = Swap(p.tree(), a, b)
				swapped := p.copied()
				leafA, _ := swapped.leaf(a)
				leafB, _ := swapped.leaf(b)
				leafA.pane, leafB.pane = b, a
				want = swapped.tree().Nodes
			case "Fit":
				newW, newH := 1+pick(90), 1+pick(60)
				got, ok = Fit(p.tree(), newW, newH)
				if leastW, leastH := p.least(); newW >= leastW && newH >= leastH {
					w, h = newW, newH
					fitted := p.copied()
					fitted.fit(w, h)
					want = fitted.tree().Nodes
				}
			}
			check(t, got, ok, want, kind, p.tree(), w, h, a, b, name, dir, r)
			if !ok {
				continue
			}
			kinds[kind]++
			p = planOf(got.Nodes, 0)
			if _, _, fits := Places(got, w, h); !Ok(got) || !fits {
				t.Fatalf("%s: %v in %d, %d", kind, got, w, h)
			}
			checkWhole(t, got, w, h)
		}
	}
	for _, kind := range []string{"Split", "Remove", "Swap", "Fit"} {
		if kinds[kind] < 100 {
			t.Errorf("%s was true %d times only", kind, kinds[kind])
		}
	}
}

// planOf tells the part of nodes that begins at i without numbers.
func planOf(nodes []api.Node, i int) *plan {
	n := nodes[i]
	if n.Pane > 0 {
		return pane(n.Pane)
	}
	return &plan{dir: n.Dir, first: n.First, a: planOf(nodes, n.A), b: planOf(nodes, n.B)}
}

// everyCall calls f with all trees and lists that the calls make of x.
func everyCall(x api.Tree, w, h, a, b, dir int, r float64, f func(trees []api.Tree, panes []int, spots []api.Spot, borders []api.Rect)) {
	Ok(x)
	Least(x)
	spots, borders, _ := Places(x, w, h)
	fitted, _ := Fit(x, w, h)
	split, _ := Split(x, w, h, a, b, dir, r)
	removed, _ := Remove(x, w, h, a)
	swapped, _ := Swap(x, a, b)
	f([]api.Tree{One(a), fitted, split, removed, swapped}, Panes(x), spots, borders)
}

// 10.5: no call panics, whatever it is given.
func TestNoPanic(t *testing.T) {
	drop := func([]api.Tree, []int, []api.Spot, []api.Rect) {}
	trees := append(bad(), One(1), some().tree(), chains(32)[0].tree(), chains(32)[4].tree())
	for i, n := range edges {
		other := edges[(i*7+3)%len(edges)]
		trees = append(trees, api.Tree{Nodes: []api.Node{{Pane: n, Dir: n, First: n, A: n, B: n}}}, api.Tree{Nodes: []api.Node{{Dir: 1, First: 1, A: n, B: other}, {Pane: 1}, {Pane: 2}}})
	}
	for _, x := range trees {
		for i, w := range edges {
			for k, h := range edges {
				everyCall(x, w, h, edges[(i+k)%len(edges)], edges[(i*k)%len(edges)], i%4, shares()[(i+k)%len(shares())], drop)
				everyCall(x, 40, 30, w, h, edges[(i+k)%len(edges)], shares()[(i*k)%len(shares())], drop)
			}
		}
	}
}

// 10.5, W6: lists that are long, or go round in a ring, end as soon as others.
func TestLongLists(t *testing.T) {
	const length = 300_001
	deep, ring := make([]api.Node, length), make([]api.Node, length)
	for i := range deep {
		deep[i] = api.Node{Dir: 1, First: 1, A: i + 1, B: i + 1}
		ring[i] = api.Node{Dir: 1, First: 1, A: (i + 1) % length, B: 0}
	}
	deep[length-1] = api.Node{Pane: 5}
	for _, nodes := range [][]api.Node{deep, ring, make([]api.Node, length), ring[:63], deep[:63], deep[:62]} {
		checkNone(t, api.Tree{Nodes: nodes})
	}
	for size := 1; size <= 63; size++ {
		nodes := slices.Clone(deep[:size])
		for i := range nodes {
			nodes[i].A, nodes[i].B = i+1, size-1
		}
		checkNone(t, api.Tree{Nodes: nodes})
	}
}

// roomy is x with spare room behind its nodes, and all that room.
func roomy(x api.Tree) (api.Tree, []api.Node) {
	room := slices.Clone(x.Nodes)
	for i := range 6 {
		room = append(room, api.Node{Pane: 70 + i, Dir: 9, First: -i, A: 5, B: 4})
	}
	return api.Tree{Nodes: room[:len(x.Nodes)]}, room
}

// scrawl writes all over lists and their spare room.
func scrawl(trees []api.Tree, panes []int, spots []api.Spot, borders []api.Rect) {
	for _, x := range trees {
		nodes := x.Nodes[:cap(x.Nodes)]
		for i := range nodes {
			nodes[i] = api.Node{Pane: -7, Dir: -7, First: -7, A: -7, B: -7}
		}
	}
	panes, spots, borders = panes[:cap(panes)], spots[:cap(spots)], borders[:cap(borders)]
	for i := range panes {
		panes[i] = -7
	}
	for i := range spots {
		spots[i] = api.Spot{Pane: -7}
	}
	for i := range borders {
		borders[i] = api.Rect{X: -7}
	}
}

// Rule 3: what is handed in is not changed, nor the spare room behind it, and no answer shares it.
func TestNothingShared(t *testing.T) {
	smallPlans(func(p *plan) {
		x, room := roomy(p.tree())
		before := slices.Clone(room)
		names := p.panes()
		for _, a := range append(names, 5) {
			for _, size := range [][2]int{{9, 8}, {3, 3}, {20, 20}} {
				for _, b := range []int{5, names[0]} {
					everyCall(x, size[0], size[1], a, b, 1+a&1, 0.5, scrawl)
					if !slices.Equal(room, before) {
						t.Fatal(before, a, b, size)
					}
				}
			}
		}
	})
}

// Rule 3: an answer stays as it is when what was handed in changes, or when another is answered.
func TestAnswerStays(t *testing.T) {
	type answer struct {
		trees   []api.Tree
		panes   []int
		spots   []api.Spot
		borders []api.Rect
	}
	x := some().tree()
	var answers, kept []answer
	for _, a := range []int{3, 5, 4} {
		for _, b := range []int{3, 5, 4, 9} {
			for range 2 {
				everyCall(x, 9, 6, a, b, api.DRight, 0.5, func(trees []api.Tree, panes []int, spots []api.Spot, borders []api.Rect) {
					answers = append(answers, answer{trees, panes, spots, borders})
					var copies []api.Tree
					for _, x := range trees {
						copies = append(copies, api.Tree{Nodes: slices.Clone(x.Nodes)})
					}
					kept = append(kept, answer{copies, slices.Clone(panes), slices.Clone(spots), slices.Clone(borders)})
				})
			}
		}
	}
	scrawl([]api.Tree{x}, nil, nil, nil)
	for i, got := range answers {
		want := kept[i]
		for k := range got.trees {
			if !slices.Equal(got.trees[k].Nodes, want.trees[k].Nodes) {
				t.Error(i, k, got.trees[k], want.trees[k])
			}
		}
		if !slices.Equal(got.panes, want.panes) || !slices.Equal(got.spots, want.spots) || !slices.Equal(got.borders, want.borders) {
			t.Error(i, got, want)
		}
		scrawl(got.trees, got.panes, got.spots, got.borders)
	}
}
