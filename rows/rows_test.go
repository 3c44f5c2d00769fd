package rows

import (
	"math"
	"slices"
	"testing"

	"polyptych/api"
)

var gap = api.Cell{R: 32, A: 0}

// edges are numbers at a short row's ends, at the longest row's, and at those of int.
var edges = []int{
	math.MinInt, math.MinInt + 1, math.MinInt32, -1001, -1000, -7, -2, -1, 0, 1, 2, 3, 4, 5, 6, 7, 8,
	999, 1000, 1001, math.MaxInt32, 1 << 32, 1<<32 + 1, 1 << 62, math.MaxInt - 2, math.MaxInt - 1, math.MaxInt,
}

// lengths are those of the rows that are tried; the last one is longer than any that Blank makes.
var lengths = []int{0, 1, 2, 3, 6, 1000, 1003}

// row is n cells of which no two are the same and none is blank.
func row(n int) []api.Cell {
	var out []api.Cell
	for i := range n {
		out = append(out, api.Cell{R: rune(1000 + i), A: i%9*16 + 1})
	}
	return out
}

// cellsOf are a text's cells with attribute 0, but capitals, which have 33.
func cellsOf(s string) []api.Cell {
	var out []api.Cell
	for _, r := range s {
		c := api.Cell{R: r}
		if r >= 'A' && r <= 'Z' {
			c.A = 33
		}
		out = append(out, c)
	}
	return out
}

// at is r's cell at x, blank where there is no such place.
func at(r []api.Cell, x int) api.Cell {
	if x < 0 || x >= len(r) {
		return gap
	}
	return r[x]
}

// build makes a row of n cells, each told by f.
func build(n int, f func(x int) api.Cell) []api.Cell {
	var out []api.Cell
	for x := range n {
		out = append(out, f(x))
	}
	return out
}

func check(t *testing.T, got, want []api.Cell, call ...any) {
	t.Helper()
	if !slices.Equal(got, want) {
		t.Fatalf("%v: %v, want %v", call, got, want)
	}
}

// 4.1: w is held to 0 to 1,000.
func TestBlank(t *testing.T) {
	for w, held := range map[int]int{
		math.MinInt: 0, math.MinInt32: 0, -1000: 0, -1: 0, 0: 0, 1: 1, 2: 2, 80: 80, 999: 999, 1000: 1000,
		1001: 1000, 2000: 1000, math.MaxInt32: 1000, 1 << 32: 1000, 1<<32 + 3: 1000, math.MaxInt: 1000,
	} {
		check(t, Blank(w), build(held, func(int) api.Cell { return gap }), "Blank", w)
	}
}

// 4.1: a blank cell is the rune 32 with A 0, and no cell without a rune.
func TestBlankCell(t *testing.T) {
	for name, r := range map[string][]api.Cell{
		"Blank":  Blank(1),
		"Fit":    Fit(nil, 1),
		"Clear":  Clear(row(1), 0, 1),
		"Insert": Insert(row(1), 0, 1),
		"Delete": Delete(row(1), 0, 1),
	} {
		if len(r) != 1 || r[0].R != 32 || r[0].A != 0 {
			t.Errorf("%s: %v", name, r)
		}
	}
}

// 4.1: each call, written out.
func TestWrittenOut(t *testing.T) {
	r := cellsOf("aBcDe")
	x := api.Cell{R: 'X', A: 33}
	for _, c := range []struct {
		call string
		got  []api.Cell
		want string
	}{
		{"Fit 3", Fit(r, 3), "aBc"},
		{"Fit 5", Fit(r, 5), "aBcDe"},
		{"Fit 8", Fit(r, 8), "aBcDe   "},
		{"Fit 0", Fit(r, 0), ""},
		{"Fit -1", Fit(r, -1), ""},
		{"Fit of none", Fit(nil, 2), "  "},
		{"Put 0", Put(r, 0, x), "XBcDe"},
		{"Put 4", Put(r, 4, x), "aBcDX"},
		{"Put 5", Put(r, 5, x), "aBcDe"},
		{"Put -1", Put(r, -1, x), "aBcDe"},
		{"Clear 1 3", Clear(r, 1, 3), "a  De"},
		{"Clear 0 5", Clear(r, 0, 5), "     "},
		{"Clear -2 2", Clear(r, -2, 2), "  cDe"},
		{"Clear 3 6", Clear(r, 3, 6), "aBc  "},
		{"Clear 2 2", Clear(r, 2, 2), "aBcDe"},
		{"Clear 3 1", Clear(r, 3, 1), "aBcDe"},
		{"Clear 9 -9", Clear(r, 9, -9), "aBcDe"},
		{"Insert 0 1", Insert(r, 0, 1), " aBcD"},
		{"Insert 1 2", Insert(r, 1, 2), "a  Bc"},
		{"Insert 2 3", Insert(r, 2, 3), "aB   "},
		{"Insert 2 4", Insert(r, 2, 4), "aB   "},
		{"Insert 4 1", Insert(r, 4, 1), "aBcD "},
		{"Insert 5 1", Insert(r, 5, 1), "aBcDe"},
		{"Insert -1 2", Insert(r, -1, 2), "aBcDe"},
		{"Insert 1 0", Insert(r, 1, 0), "aBcDe"},
		{"Insert 1 -2", Insert(r, 1, -2), "aBcDe"},
		{"Delete 0 1", Delete(r, 0, 1), "BcDe "},
		{"Delete 1 2", Delete(r, 1, 2), "aDe  "},
		{"Delete 2 3", Delete(r, 2, 3), "aB   "},
		{"Delete 2 4", Delete(r, 2, 4), "aB   "},
		{"Delete 4 1", Delete(r, 4, 1), "aBcD "},
		{"Delete 5 1", Delete(r, 5, 1), "aBcDe"},
		{"Delete -1 2", Delete(r, -1, 2), "aBcDe"},
		{"Delete 1 0", Delete(r, 1, 0), "aBcDe"},
		{"Delete 1 -2", Delete(r, 1, -2), "aBcDe"},
	} {
		check(t, c.got, cellsOf(c.want), c.call)
	}
}

// 4.1: r's first w, and blank ones up to w, held as in Blank, whatever r's length is.
func TestFit(t *testing.T) {
	for _, n := range lengths {
		r := row(n)
		for _, w := range edges {
			want := build(max(0, min(w, 1000)), func(x int) api.Cell { return at(r, x) })
			check(t, Fit(r, w), want, "Fit", n, w)
		}
	}
}

// 4.1: whatever the cell is, it stands at x, and no other place is another.
func TestPut(t *testing.T) {
	for _, c := range []api.Cell{{}, gap, {R: 32, A: 7}, {R: -1, A: -1}, {R: 0x10ffff, A: 2183}, {R: math.MaxInt32, A: math.MaxInt}, {R: math.MinInt32, A: math.MinInt}} {
		for _, n := range lengths {
			r := row(n)
			for _, x := range edges {
				want := build(n, func(i int) api.Cell {
					if i == x {
						return c
					}
					return r[i]
				})
				check(t, Put(r, x, c), want, "Put", n, x, c)
			}
		}
	}
}

// 4.1: from from on, ahead of to, both held to r.
func TestClear(t *testing.T) {
	for _, n := range lengths {
		r := row(n)
		for _, from := range edges {
			for _, to := range edges {
				want := build(n, func(i int) api.Cell {
					if i >= from && i < to {
						return gap
					}
					return r[i]
				})
				check(t, Clear(r, from, to), want, "Clear", n, from, to)
			}
		}
	}
}

// inserted is Insert told cell by cell, without a sum that could wrap round.
func inserted(r []api.Cell, x, n int) []api.Cell {
	return build(len(r), func(i int) api.Cell {
		switch {
		case x < 0 || i < x || n <= 0:
			return r[i]
		case i-x < n:
			return gap
		}
		return r[i-n]
	})
}

// deleted is Delete told likewise.
func deleted(r []api.Cell, x, n int) []api.Cell {
	return build(len(r), func(i int) api.Cell {
		switch {
		case x < 0 || i < x || n <= 0:
			return r[i]
		case n >= len(r)-i:
			return gap
		}
		return r[i+n]
	})
}

// 4.1
func TestInsertAndDelete(t *testing.T) {
	for _, length := range lengths {
		r := row(length)
		for _, x := range edges {
			for _, n := range edges {
				check(t, Insert(r, x, n), inserted(r, x, n), "Insert", length, x, n)
				check(t, Delete(r, x, n), deleted(r, x, n), "Delete", length, x, n)
			}
		}
	}
}

// 4.1, W3: in pieces or at once it is the same.
func TestPieces(t *testing.T) {
	r := row(6)
	for x := -1; x <= 7; x++ {
		for n := range 9 {
			for m := range 9 {
				check(t, Insert(Insert(r, x, n), x, m), Insert(r, x, n+m), "Insert", x, n, m)
				check(t, Delete(Delete(r, x, n), x, m), Delete(r, x, n+m), "Delete", x, n, m)
				check(t, Clear(Clear(r, x, x+n), x+n, x+n+m), Clear(r, x, x+n+m), "Clear", x, n, m)
			}
			check(t, Delete(Insert(r, x, n), x, n), deletedBack(r, x, n), "both", x, n)
		}
	}
}

// deletedBack is r with what an Insert of n at x pushed out blank at its end.
func deletedBack(r []api.Cell, x, n int) []api.Cell {
	if x < 0 || x >= len(r) {
		return r
	}
	return build(len(r), func(i int) api.Cell {
		if i >= x && i >= len(r)-n {
			return gap
		}
		return r[i]
	})
}

// everyCall calls f with what each call that changes a row makes of r.
func everyCall(r []api.Cell, a, b int, f func(call string, got []api.Cell)) {
	f("Put", Put(r, a, api.Cell{R: 'x', A: b}))
	f("Clear", Clear(r, a, b))
	f("Insert", Insert(r, a, b))
	f("Delete", Delete(r, a, b))
}

// 4.2: a row is as long as it was, however long, and whatever is asked; 4.3: no call panics.
func TestLengthStays(t *testing.T) {
	for _, n := range append(slices.Clone(lengths), 5000) {
		r := row(n)
		for _, a := range edges {
			for _, b := range edges {
				everyCall(r, a, b, func(call string, got []api.Cell) {
					if len(got) != n {
						t.Fatalf("%s %d %d of %d: %d", call, a, b, n, len(got))
					}
				})
			}
		}
	}
}

// 4.2: behind many calls, too.
func TestLengthStaysBehindMany(t *testing.T) {
	r := row(6)
	for _, a := range edges {
		for _, b := range edges {
			r = Insert(Delete(Clear(Put(r, a, api.Cell{R: 'x'}), a, b), b, a), a, b)
			if len(r) != 6 {
				t.Fatalf("%d %d: %d", a, b, len(r))
			}
		}
	}
}

// 4.3: nil and an empty row mean the same, and stay empty.
func TestNoCells(t *testing.T) {
	for _, r := range [][]api.Cell{nil, {}, make([]api.Cell, 0, 4), row(3)[:0]} {
		for _, a := range edges {
			if got := len(Fit(r, a)); got != len(Blank(a)) {
				t.Fatalf("Fit %d: %d", a, got)
			}
			for _, b := range edges {
				everyCall(r, a, b, func(call string, got []api.Cell) {
					if len(got) != 0 {
						t.Fatalf("%s %d %d: %v", call, a, b, got)
					}
				})
			}
		}
	}
}

// scrawl writes all over an answer and its spare room.
func scrawl(r []api.Cell) {
	r = r[:cap(r)]
	for i := range r {
		r[i] = api.Cell{R: '#', A: -9}
	}
}

// Rule 3: what is handed in is not changed, nor the spare room behind it, and no answer shares them.
func TestNothingShared(t *testing.T) {
	whole := row(9)
	for n := range 7 {
		room := slices.Clone(whole)
		r := room[:n]
		for a := -2; a <= 10; a++ {
			scrawl(Fit(r, a))
			for b := -2; b <= 10; b++ {
				everyCall(r, a, b, func(call string, got []api.Cell) {
					scrawl(got)
					check(t, room, whole, call, n, a, b)
				})
			}
			check(t, room, whole, "Fit", n, a)
		}
	}
}

// Rule 3: an answer stays as it is when what was handed in changes, or when another is answered.
func TestAnswerStays(t *testing.T) {
	r := row(4)
	var answers, kept [][]api.Cell
	keep := func(_ string, got []api.Cell) {
		answers = append(answers, got)
		kept = append(kept, slices.Clone(got))
	}
	for a := -1; a <= 5; a++ {
		keep("Blank", Blank(a))
		keep("Fit", Fit(r, a))
		for b := -1; b <= 5; b++ {
			everyCall(r, a, b, keep)
		}
	}
	scrawl(r)
	for i := range answers {
		check(t, answers[i], kept[i], i)
		scrawl(answers[i])
	}
	check(t, Blank(2), []api.Cell{gap, gap}, "Blank behind all")
}
