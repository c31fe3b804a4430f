package grid

import (
	"math"
	"math/big"
	"slices"
	"strconv"
	"testing"

	"mezzotint/api"
)

// The tests' own model walks a grid's cells row by row into a map by their
// places, and does everything else with this map.

type place struct{ x, y int }

// isPossible tells whether there can be a valid grid of a size, by the chapter's words.
func isPossible(w, h int) bool {
	if w < 0 || h < 0 || w > 4194304 || h > 4194304 {
		return false
	}
	product := new(big.Int).Mul(big.NewInt(int64(w)), big.NewInt(int64(h)))
	return product.Cmp(big.NewInt(4194304)) <= 0
}

// isValid tells whether a grid is valid, by the chapter's words.
func isValid[T any](g Grid[T]) bool {
	return isPossible(g.W, g.H) && len(g.Cells) == g.W*g.H
}

// placesOf is a grid's cells by their places; of one that isn't valid there are none.
func placesOf[T any](g Grid[T]) map[place]T {
	cells := map[place]T{}
	if !isValid(g) {
		return cells
	}
	i := 0
	for y := range g.H {
		for x := range g.W {
			cells[place{x, y}] = g.Cells[i]
			i++
		}
	}
	return cells
}

// gridOf is the grid of so many columns and rows with the cells of a map.
func gridOf[T any](w, h int, cells map[place]T) Grid[T] {
	g := Grid[T]{W: w, H: h}
	for y := range h {
		for x := range w {
			g.Cells = append(g.Cells, cells[place{x, y}])
		}
	}
	return g
}

// cutOf is a part of a grid, by the chapter's words.
func cutOf[T any](g Grid[T], r api.Rect) (Grid[T], api.Errno) {
	cells := placesOf(g)
	if _, ok := cells[place{r.X, r.Y}]; !ok || !isPossible(r.W, r.H) {
		return Grid[T]{}, api.ErrArg
	}
	part := map[place]T{}
	for y := range r.H {
		for x := range r.W {
			part[place{x, y}] = cells[place{min(r.X+x, g.W-1), min(r.Y+y, g.H-1)}]
		}
	}
	return gridOf(r.W, r.H, part), api.OK
}

// pasteOf is a grid with another one laid over it, by the chapter's words.
func pasteOf[T any](g, p Grid[T], x, y int) (Grid[T], api.Errno) {
	cells := placesOf(g)
	if _, ok := cells[place{x, y}]; !ok || !isValid(p) {
		return g, api.ErrArg
	}
	for at, c := range placesOf(p) {
		to := place{at.x + x, at.y + y}
		if _, ok := cells[to]; ok {
			cells[to] = c
		}
	}
	return gridOf(g.W, g.H, cells), api.OK
}

// isSame tells whether grids are equal; cells that are nil and none are.
func isSame[T comparable](g, h Grid[T]) bool {
	return g.W == h.W && g.H == h.H && slices.Equal(g.Cells, h.Cells)
}

func wantGrid[T comparable](t *testing.T, what string, got, want Grid[T], err, wantErr api.Errno) {
	t.Helper()
	if !isSame(got, want) || err != wantErr {
		t.Fatalf("%s: %v, error %d; want %v, error %d", what, got, err, want, wantErr)
	}
}

// checkPlaces holds At, Set and Row of a grid against the model, at these places.
func checkPlaces[T comparable](t *testing.T, g Grid[T], c T, xs, ys []int) {
	t.Helper()
	cells := placesOf(g)
	if g.Right() != isValid(g) {
		t.Fatalf("%v: Right %v", g, g.Right())
	}
	for _, y := range ys {
		checkRow(t, g, y)
		for _, x := range xs {
			want, wantOk := cells[place{x, y}]
			if got, ok := g.At(x, y); got != want || ok != wantOk {
				t.Fatalf("%v: At(%d, %d): %v, %v; want %v, %v", g, x, y, got, ok, want, wantOk)
			}
			checkSet(t, g, x, y, c)
		}
	}
}

func checkRow[T comparable](t *testing.T, g Grid[T], y int) {
	t.Helper()
	cells := placesOf(g)
	var want []T
	wantErr := api.ErrArg
	if isValid(g) && y >= 0 && y < g.H {
		wantErr = api.OK
		for x := range g.W {
			want = append(want, cells[place{x, y}])
		}
	}
	if got, err := g.Row(y); !slices.Equal(got, want) || err != wantErr {
		t.Fatalf("%v: Row(%d): %v, error %d; want %v, error %d", g, y, got, err, want, wantErr)
	}
}

func checkSet[T comparable](t *testing.T, g Grid[T], x, y int, c T) {
	t.Helper()
	want, wantErr := g, api.ErrArg
	cells := placesOf(g)
	if _, ok := cells[place{x, y}]; ok {
		cells[place{x, y}] = c
		want, wantErr = gridOf(g.W, g.H, cells), api.OK
	}
	got, err := g.Set(x, y, c)
	wantGrid(t, "Set", got, want, err, wantErr)
}

func checkCut[T comparable](t *testing.T, g Grid[T], r api.Rect) {
	t.Helper()
	want, wantErr := cutOf(g, r)
	got, err := g.Cut(r)
	wantGrid(t, "Cut", got, want, err, wantErr)
	if err != api.OK {
		return
	}
	back, err := g.Paste(got, r.X, r.Y) // P19.4
	wantGrid(t, "Paste of what was cut", back, g, err, api.OK)
}

func checkPaste[T comparable](t *testing.T, g, p Grid[T], x, y int) {
	t.Helper()
	want, wantErr := pasteOf(g, p, x, y)
	got, err := g.Paste(p, x, y)
	wantGrid(t, "Paste", got, want, err, wantErr)
	if err != api.OK || x+p.W > g.W || y+p.H > g.H {
		return
	}
	back, err := got.Cut(api.Rect{X: x, Y: y, W: p.W, H: p.H}) // P19.4
	wantGrid(t, "Cut of what was pasted", back, p, err, api.OK)
}

// filled is a grid of so many columns and rows with cells made of numbers from one on.
func filled[T any](w, h, from int, cell func(int) T) Grid[T] {
	g := Grid[T]{W: w, H: h}
	for i := range w * h {
		g.Cells = append(g.Cells, cell(from+i))
	}
	return g
}

func number(i int) int { return i }

// farOff are places that no small grid has.
var farOff = []int{math.MinInt, math.MinInt + 1, math.MinInt32, -(1 << 32), -api.MaxCells, -2, -1, api.MaxCells - 1, api.MaxCells, 1 << 31, 1 << 32, 1<<32 + 1, 1 << 62, math.MaxInt - 1, math.MaxInt}

// wrongSizes are those of no valid grid.
var wrongSizes = []place{
	{-1, 0}, {0, -1}, {-1, -1}, {-1, 1}, {1, -1}, {-2, -3}, {-2, 3}, {3, -2},
	{math.MinInt, 0}, {0, math.MinInt}, {math.MinInt, math.MinInt}, {math.MinInt, 2}, {2, math.MinInt}, {math.MinInt, math.MaxInt},
	{api.MaxCells + 1, 0}, {0, api.MaxCells + 1}, {api.MaxCells + 1, 1}, {1, api.MaxCells + 1},
	{api.MaxCells, 2}, {2, api.MaxCells}, {api.MaxCells, api.MaxCells}, {1 << 12, 1 << 11}, {1 << 11, 1<<11 + 1}, {1<<11 + 1, 1 << 11}, {2049, 2048},
	{1 << 32, 1 << 32}, {1 << 62, 4}, {4, 1 << 62}, {1 << 32, 0}, {0, 1 << 32}, {1<<32 + 1, 1}, {1, 1<<32 + 1}, {1<<32 + 1, 1<<32 + 1},
	{math.MaxInt, 0}, {0, math.MaxInt}, {math.MaxInt, 1}, {1, math.MaxInt}, {math.MaxInt, 2}, {math.MaxInt, math.MaxInt}, {-1, math.MaxInt},
}

// great are sizes of valid grids at the edges.
var great = []place{{api.MaxCells, 0}, {0, api.MaxCells}, {api.MaxCells, 1}, {1, api.MaxCells}, {2, api.MaxCells / 2}, {2048, 2048}, {1 << 15, 128}, {3, api.MaxCells / 3}, {2047, 2049}}

// wrongGrids are grids that aren't valid.
func wrongGrids[T any](cell func(int) T) []Grid[T] {
	var l []Grid[T]
	for w := range 4 {
		for h := range 4 {
			for _, n := range []int{0, w*h - 1, w*h + 1, 2 * w * h, w*h + w, w*h - w, w + h} {
				if n >= 0 && n != w*h {
					l = append(l, Grid[T]{W: w, H: h, Cells: filled(n, 1, 1, cell).Cells})
				}
			}
		}
	}
	for _, s := range wrongSizes {
		for _, n := range []int{0, 1, 6} {
			l = append(l, Grid[T]{W: s.x, H: s.y, Cells: filled(n, 1, 1, cell).Cells})
		}
	}
	return l
}

// eachSmall visits all valid grids of up to so many columns and rows.
func eachSmall[T any](most int, cell func(int) T, visit func(Grid[T])) {
	for w := range most + 1 {
		for h := range most + 1 {
			visit(filled(w, h, 1, cell))
		}
	}
}

// P19.1, P19.2, P19.3, by hand.
func TestByHand(t *testing.T) {
	g := Grid[int]{W: 2, H: 2, Cells: []int{1, 2, 3, 4}}
	got, err := g.Cut(api.Rect{X: 1, Y: 1, W: 2, H: 2})
	wantGrid(t, "the chapter's example", got, Grid[int]{2, 2, []int{4, 4, 4, 4}}, err, api.OK)

	got, err = g.Cut(api.Rect{X: 0, Y: 0, W: 3, H: 3})
	wantGrid(t, "Cut", got, Grid[int]{3, 3, []int{1, 2, 2, 3, 4, 4, 3, 4, 4}}, err, api.OK)
	got, err = g.Cut(api.Rect{X: 1, Y: 0, W: 1, H: 4})
	wantGrid(t, "Cut", got, Grid[int]{1, 4, []int{2, 4, 4, 4}}, err, api.OK)
	got, err = g.Cut(api.Rect{X: 1, Y: 1, W: 0, H: 3})
	wantGrid(t, "Cut", got, Grid[int]{0, 3, nil}, err, api.OK)
	got, err = g.Cut(api.Rect{X: 2, Y: 0, W: 1, H: 1})
	wantGrid(t, "Cut", got, Grid[int]{}, err, api.ErrArg)

	p := Grid[int]{W: 2, H: 2, Cells: []int{5, 6, 7, 8}}
	got, err = g.Paste(p, 0, 0)
	wantGrid(t, "Paste", got, p, err, api.OK)
	got, err = g.Paste(p, 1, 0)
	wantGrid(t, "Paste", got, Grid[int]{2, 2, []int{1, 5, 3, 7}}, err, api.OK)
	got, err = g.Paste(p, 0, 1)
	wantGrid(t, "Paste", got, Grid[int]{2, 2, []int{1, 2, 5, 6}}, err, api.OK)
	got, err = g.Paste(p, -1, 0)
	wantGrid(t, "Paste", got, g, err, api.ErrArg)

	got, err = g.Set(1, 0, 9)
	wantGrid(t, "Set", got, Grid[int]{2, 2, []int{1, 9, 3, 4}}, err, api.OK)
	got, err = g.Set(0, 2, 9)
	wantGrid(t, "Set", got, g, err, api.ErrArg)

	texts := Map(g, strconv.Itoa)
	wantGrid(t, "Map", texts, Grid[string]{2, 2, []string{"1", "2", "3", "4"}}, api.OK, api.OK)
}

// P19.1: New.
func TestNew(t *testing.T) {
	for w := -2; w < 40; w++ {
		for h := -2; h < 40; h++ {
			want, wantErr := Grid[int]{}, api.ErrArg
			if w >= 0 && h >= 0 {
				want, wantErr = Grid[int]{w, h, make([]int, w*h)}, api.OK
			}
			got, err := New[int](w, h)
			wantGrid(t, "New", got, want, err, wantErr)
			if got.Right() != true {
				t.Error(w, h, "not right") // the zero grid is valid too
			}
		}
	}
	for _, s := range wrongSizes {
		got, err := New[string](s.x, s.y)
		wantGrid(t, "New", got, Grid[string]{}, err, api.ErrArg)
	}
	for _, s := range great {
		got, err := New[byte](s.x, s.y)
		if err != api.OK || got.W != s.x || got.H != s.y || len(got.Cells) != s.x*s.y || !got.Right() {
			t.Error(s, err, got.W, got.H, len(got.Cells))
		}
		if slices.ContainsFunc(got.Cells, func(c byte) bool { return c != 0 }) {
			t.Error(s, "cells that aren't zero")
		}
	}
}

// P19.1: Right, At, Set, Row at all places of small grids and beside them.
func TestPlaces(t *testing.T) {
	near := []int{-3, -2, -1, 0, 1, 2, 3, 4, 5, 6}
	eachSmall(4, number, func(g Grid[int]) {
		checkPlaces(t, g, 99, near, near)
		checkPlaces(t, g, 0, append(farOff, 0, 1), append(farOff, 0, 1))
	})
	checkPlaces(t, Grid[int]{}, 1, near, near)
	checkPlaces(t, Grid[int]{Cells: []int{}}, 1, near, near)
}

// P19.1: an index that would wrap round to that of a cell is none.
func TestPlacesThatWouldWrapRound(t *testing.T) {
	g := filled(4, 4, 1, number)
	for _, at := range []place{{0, 1 << 62}, {1, 1 << 62}, {4, 0}, {5, 0}, {-1, 1}, {-4, 1}, {8, -1}, {0, -(1 << 62)}, {1, 1 << 61}, {math.MinInt, 1 << 61}, {1 << 32, 0}, {0, 1 << 32}} {
		if c, ok := g.At(at.x, at.y); c != 0 || ok {
			t.Errorf("At(%d, %d): %d, %v", at.x, at.y, c, ok)
		}
		checkSet(t, g, at.x, at.y, 9)
		checkCut(t, g, api.Rect{X: at.x, Y: at.y, W: 1, H: 1})
		checkPaste(t, g, g, at.x, at.y)
		checkRow(t, g, at.y)
	}
}

// P19.1, P19.2: grids that aren't valid have no cells and no rows; Set and
// Paste leave them as they are, and so does Clone.
func TestWrongGrids(t *testing.T) {
	one := Grid[int]{1, 1, []int{7}}
	for _, g := range wrongGrids(number) {
		if g.Right() {
			t.Fatalf("%v is right", g)
		}
		near := []int{-2, -1, 0, 1, 2, 3, g.W - 1, g.W, g.H - 1, g.H}
		checkPlaces(t, g, 99, near, near)
		wantGrid(t, "Clone", g.Clone(), g, api.OK, api.OK)
		for _, x := range []int{-1, 0, 1} {
			for _, y := range []int{-1, 0, 1} {
				checkCut(t, g, api.Rect{X: x, Y: y, W: 1, H: 1})
				checkCut(t, g, api.Rect{X: x, Y: y})
				checkPaste(t, g, one, x, y)
				checkPaste(t, one, g, x, y)
				checkPaste(t, g, g, x, y)
			}
		}
	}
}

// P19.1: the sizes that no grid has, with as many cells as they ask for where there can be.
func TestWrongSizesWithAllTheirCells(t *testing.T) {
	for _, s := range wrongSizes {
		g := Grid[struct{}]{W: s.x, H: s.y}
		if product := new(big.Int).Mul(big.NewInt(int64(s.x)), big.NewInt(int64(s.y))); product.IsInt64() && product.Sign() >= 0 {
			g.Cells = make([]struct{}, product.Int64())
		}
		if g.Right() {
			t.Errorf("%d times %d is right", s.x, s.y)
		}
		if _, ok := g.At(0, 0); ok {
			t.Errorf("%d times %d has a cell", s.x, s.y)
		}
		if _, err := g.Row(0); err != api.ErrArg {
			t.Errorf("%d times %d has a row", s.x, s.y)
		}
		if part, err := g.Cut(api.Rect{W: 1, H: 1}); err != api.ErrArg || part.W != 0 || part.H != 0 || len(part.Cells) != 0 {
			t.Errorf("%d times %d was cut", s.x, s.y)
		}
	}
}

// P19.1: the greatest grids.
func TestGreatGrids(t *testing.T) {
	for _, s := range great {
		g, err := New[int32](s.x, s.y)
		if err != api.OK {
			t.Fatal(s, err)
		}
		for i := range g.Cells {
			g.Cells[i] = int32(i)
		}
		for _, at := range []place{{0, 0}, {s.x - 1, 0}, {0, s.y - 1}, {s.x - 1, s.y - 1}, {s.x / 2, s.y / 2}, {s.x, 0}, {0, s.y}, {s.x, s.y}} {
			has := at.x >= 0 && at.x < s.x && at.y >= 0 && at.y < s.y
			want := int32(0)
			if has {
				want = int32(at.y*s.x + at.x)
			}
			if c, ok := g.At(at.x, at.y); c != want || ok != has {
				t.Error(s, at, c, ok)
			}
		}
		if r, err := g.Row(s.y - 1); s.y > 0 && (len(r) != s.x || err != api.OK || !slices.Equal(r, g.Cells[(s.y-1)*s.x:])) {
			t.Error(s, len(r), err)
		}
		wantGreat(t, g, g.Clone(), api.OK)
		all, err := g.Cut(api.Rect{W: s.x, H: s.y})
		if len(g.Cells) == 0 {
			wantGreat(t, Grid[int32]{}, all, api.OK)
			continue
		}
		wantGreat(t, g, all, err)
		blank, _ := New[int32](s.x, s.y)
		all, err = blank.Paste(g, 0, 0)
		wantGreat(t, g, all, err)
		wantGreat(t, g, Map(g, func(c int32) int32 { return c }), api.OK)
	}
}

// wantGreat holds grids against each other, but shows no cells.
func wantGreat(t *testing.T, want, got Grid[int32], err api.Errno) {
	t.Helper()
	if !isSame(got, want) || err != api.OK {
		t.Errorf("%d times %d, error %d; want %d times %d", got.W, got.H, err, want.W, want.H)
	}
}

// P19.1: a grid without columns has rows, of no cells; one without rows has none.
func TestGridsWithoutCells(t *testing.T) {
	rows := Grid[int]{W: 0, H: 3}
	for y := range 3 {
		if r, err := rows.Row(y); len(r) != 0 || err != api.OK {
			t.Error(y, r, err)
		}
	}
	if r, err := rows.Row(3); len(r) != 0 || err != api.ErrArg {
		t.Error(r, err)
	}
	columns := Grid[int]{W: 3, H: 0}
	if r, err := columns.Row(0); len(r) != 0 || err != api.ErrArg {
		t.Error(r, err)
	}
	for _, g := range []Grid[int]{rows, columns, {}} {
		if !g.Right() {
			t.Errorf("%v is not right", g)
		}
		checkCut(t, g, api.Rect{})
		checkCut(t, g, api.Rect{W: g.W, H: g.H})
		checkPaste(t, g, g, 0, 0)
		checkPaste(t, g, Grid[int]{}, 0, 0)
		checkPaste(t, filled(2, 2, 1, number), g, 1, 1)
	}
}

// P19.2, P19.4: all small parts of all small grids.
func TestAllSmallCuts(t *testing.T) {
	eachSmall(4, number, func(g Grid[int]) {
		for x := -1; x <= 5; x++ {
			for y := -1; y <= 5; y++ {
				for w := -1; w <= 7; w++ {
					for h := -1; h <= 7; h++ {
						checkCut(t, g, api.Rect{X: x, Y: y, W: w, H: h})
					}
				}
			}
		}
	})
}

// P19.2: parts of wrong sizes, and from places far off.
func TestWrongCuts(t *testing.T) {
	g := filled(3, 2, 1, number)
	for _, s := range wrongSizes {
		for _, at := range []place{{0, 0}, {2, 1}, {3, 0}, {-1, -1}} {
			checkCut(t, g, api.Rect{X: at.x, Y: at.y, W: s.x, H: s.y})
		}
	}
	for _, far := range farOff {
		for _, size := range []int{-1, 0, 1, 2} {
			checkCut(t, g, api.Rect{X: far, Y: 0, W: size, H: size})
			checkCut(t, g, api.Rect{X: 0, Y: far, W: size, H: size})
			checkCut(t, g, api.Rect{X: far, Y: far, W: size, H: size})
		}
	}
}

// P19.2: parts that go far beyond the grid.
func TestCutsFarBeyond(t *testing.T) {
	g := filled(3, 2, 1, number)
	for _, s := range great {
		part, err := g.Cut(api.Rect{X: 1, Y: 1, W: s.x, H: s.y})
		if err != api.OK || part.W != s.x || part.H != s.y || !part.Right() {
			t.Fatal(s, err, part.W, part.H, len(part.Cells))
		}
		for i, c := range part.Cells {
			want := 6
			if i%s.x == 0 {
				want = 5
			}
			if c != want {
				t.Fatalf("%v: cell %d is %d; want %d", s, i, c, want)
			}
		}
	}
}

// P19.2, P19.4: all small grids laid over all small grids.
func TestAllSmallPastes(t *testing.T) {
	eachSmall(4, number, func(g Grid[int]) {
		for w := range 7 {
			for h := range 7 {
				p := filled(w, h, 100, number)
				for x := -1; x <= 5; x++ {
					for y := -1; y <= 5; y++ {
						checkPaste(t, g, p, x, y)
					}
				}
			}
		}
		for _, p := range wrongGrids(number) {
			checkPaste(t, g, p, 0, 0)
		}
		for _, far := range farOff {
			checkPaste(t, g, g, far, 0)
			checkPaste(t, g, g, 0, far)
			checkPaste(t, g, g, far, far)
		}
	})
}

// P19.2: a great grid laid over a small one.
func TestPasteOfGreatGrids(t *testing.T) {
	for _, s := range great {
		p, _ := New[int](s.x, s.y)
		for i := range p.Cells {
			p.Cells[i] = 100 + i
		}
		for x := range 3 {
			for y := range 2 {
				want := filled(3, 2, 1, number)
				for py := range min(s.y, 2-y) {
					for px := range min(s.x, 3-x) {
						want.Cells[(y+py)*3+x+px] = 100 + py*s.x + px
					}
				}
				got, err := filled(3, 2, 1, number).Paste(p, x, y)
				wantGrid(t, "Paste", got, want, err, api.OK)
			}
		}
	}
}

// P19.2: a grid may be laid over itself, from the cells that it had.
func TestPasteOverItself(t *testing.T) {
	g := filled(3, 3, 1, number)
	got, err := g.Paste(g, 1, 1)
	wantGrid(t, "Paste", got, Grid[int]{3, 3, []int{1, 2, 3, 4, 1, 2, 7, 4, 5}}, err, api.OK)
	part := Grid[int]{2, 2, g.Cells[:4]}
	got, err = g.Paste(part, 0, 1)
	wantGrid(t, "Paste", got, Grid[int]{3, 3, []int{1, 2, 3, 1, 2, 6, 3, 4, 9}}, err, api.OK)
	wantGrid(t, "the grid", g, filled(3, 3, 1, number), api.OK, api.OK)
}

// P19.3: the cells in order, one call for each, of grids of any size and type.
func TestMap(t *testing.T) {
	check := func(g Grid[int]) {
		var met []int
		got := Map(g, func(c int) string {
			met = append(met, c)
			return strconv.Itoa(c) + "/" + strconv.Itoa(len(met))
		})
		want := Grid[string]{W: g.W, H: g.H}
		for i, c := range g.Cells {
			want.Cells = append(want.Cells, strconv.Itoa(c)+"/"+strconv.Itoa(i+1))
		}
		wantGrid(t, "Map", got, want, api.OK, api.OK)
		if !slices.Equal(met, g.Cells) {
			t.Errorf("called with %v; want %v", met, g.Cells)
		}
	}
	eachSmall(5, func(i int) int { return 3 * i }, check)
	for _, g := range wrongGrids(func(i int) int { return 10 - i }) {
		check(g)
	}
}

// P19.3, with P1: where f isn't there, or panics, cells are zero, and all others are not.
func TestMapNeverPanics(t *testing.T) {
	g := filled(3, 2, 1, number)
	wantGrid(t, "Map", Map[int, string](g, nil), Grid[string]{3, 2, make([]string, 6)}, api.OK, api.OK)
	wantGrid(t, "Map", Map[int, int](Grid[int]{}, nil), Grid[int]{}, api.OK, api.OK)
	wantGrid(t, "Map", Map[int, int](Grid[int]{W: -1, H: 7, Cells: []int{1}}, nil), Grid[int]{-1, 7, []int{0}}, api.OK, api.OK)

	got := Map(g, func(c int) int { return 60 / (c - 3) })
	wantGrid(t, "Map", got, Grid[int]{3, 2, []int{-30, -60, 0, 60, 30, 20}}, api.OK, api.OK)
	got = Map(g, func(c int) (made int) {
		made = c
		if c%2 == 0 {
			panic(c)
		}
		return made
	})
	wantGrid(t, "Map", got, Grid[int]{3, 2, []int{1, 0, 3, 0, 5, 0}}, api.OK, api.OK)
	got = Map(g, func(c int) int { panic(nil) })
	wantGrid(t, "Map", got, Grid[int]{3, 2, make([]int, 6)}, api.OK, api.OK)
}

// checkKind holds the calls against the model for cells of one type.
func checkKind[T comparable](t *testing.T, name string, cell func(int) T) {
	t.Run(name, func(t *testing.T) {
		near := []int{-1, 0, 1, 2, 3}
		var none T
		if g, err := New[T](2, 2); err != api.OK || !isSame(g, Grid[T]{2, 2, []T{none, none, none, none}}) {
			t.Error(g, err)
		}
		eachSmall(3, cell, func(g Grid[T]) {
			checkPlaces(t, g, cell(50), near, near)
			wantGrid(t, "Clone", g.Clone(), g, api.OK, api.OK)
			for _, x := range near {
				for _, y := range near {
					for _, w := range near {
						for _, h := range near {
							checkCut(t, g, api.Rect{X: x, Y: y, W: w, H: h})
							checkPaste(t, g, filled(max(w, 0), max(h, 0), 60, cell), x, y)
						}
					}
				}
			}
			want := Grid[any]{W: g.W, H: g.H}
			for _, c := range g.Cells {
				want.Cells = append(want.Cells, c)
			}
			wantGrid(t, "Map", Map(g, func(c T) any { return c }), want, api.OK, api.OK)
		})
		for _, g := range wrongGrids(cell) {
			checkPlaces(t, g, cell(50), near, near)
		}
	})
}

// P19.1 to P19.4, for cells of many types.
func TestCellsOfAnyType(t *testing.T) {
	type pair struct {
		name string
		n    int
	}
	checkKind(t, "byte", func(i int) byte { return byte(i) })
	checkKind(t, "uint32", func(i int) uint32 { return math.MaxUint32 - uint32(i) })
	checkKind(t, "bool", func(i int) bool { return i%2 == 1 })
	checkKind(t, "float64", func(i int) float64 { return float64(i) / 3 })
	checkKind(t, "string", strconv.Itoa)
	checkKind(t, "array", func(i int) [3]byte { return [3]byte{byte(i), 1, byte(i)} })
	checkKind(t, "struct", func(i int) pair { return pair{strconv.Itoa(i), i} })
	checkKind(t, "nothing", func(i int) struct{} { return struct{}{} })
	checkKind(t, "any", func(i int) any { return []any{i, strconv.Itoa(i), nil}[i%3] })
	checkKind(t, "pointer", func(i int) *int { return &[]int{i}[0] })
	checkKind(t, "grid", func(i int) *Grid[int] { return &Grid[int]{W: i} })
}

// P19.1: cells that can't be compared do too.
func TestCellsThatCannotBeCompared(t *testing.T) {
	g := Grid[[]int]{2, 1, [][]int{{1}, {2, 3}}}
	if c, ok := g.At(1, 0); !ok || !slices.Equal(c, []int{2, 3}) {
		t.Error(c, ok)
	}
	part, err := g.Cut(api.Rect{X: 1, W: 2, H: 1})
	if lens := Map(part, func(c []int) int { return len(c) }); err != api.OK || !slices.Equal(lens.Cells, []int{2, 2}) {
		t.Error(lens, err)
	}
	calls := Map(g, func(c []int) func() int { return func() int { return len(c) } })
	if c, ok := calls.At(1, 0); !ok || c() != 2 {
		t.Error(ok)
	}
}

// everyResult is all cells that the calls answer of two grids and a place.
func everyResult(g, p Grid[int], x, y int) [][]int {
	row, _ := g.Row(y)
	set, _ := g.Set(x, y, 77)
	part, _ := g.Cut(api.Rect{X: x, Y: y, W: p.W, H: p.H})
	pasted, _ := g.Paste(p, x, y)
	over, _ := p.Paste(g, x, y)
	made := Map(g, func(c int) int { return -c })
	return [][]int{row, set.Cells, part.Cells, pasted.Cells, over.Cells, made.Cells, g.Clone().Cells}
}

// isTheSame tells whether lists of cells are equal, one by one.
func isTheSame(a, b [][]int) bool { return slices.EqualFunc(a, b, slices.Equal[[]int]) }

// P2, with the rules that arguments aren't changed and that results share
// nothing, also beside an error.
func TestTheSameCallAnswersTheSame(t *testing.T) {
	grids := []Grid[int]{filled(3, 3, 1, number), filled(2, 2, 50, number), filled(1, 4, 20, number), {W: 2, H: 2, Cells: []int{1, 2, 3}}, {W: -1, H: -3, Cells: []int{1, 2, 3}}}
	for _, g := range grids {
		for _, p := range grids {
			for _, at := range []place{{0, 0}, {1, 1}, {2, 2}, {3, 0}, {-1, -1}} {
				keptG, keptP := slices.Clone(g.Cells), slices.Clone(p.Cells)
				want := everyResult(g, p, at.x, at.y)
				got := everyResult(g, p, at.x, at.y)
				if !isTheSame(got, want) {
					t.Fatalf("%v, then %v", want, got)
				}
				for i := range got {
					clear(got[i][:cap(got[i])])
					if !isTheSame(got[i+1:], want[i+1:]) {
						t.Fatalf("result %d shares memory with another one", i)
					}
				}
				if !slices.Equal(g.Cells, keptG) || !slices.Equal(p.Cells, keptP) {
					t.Fatalf("changed: %v, %v; were %v, %v", g, p, keptG, keptP)
				}
				if again := everyResult(g, p, at.x, at.y); !isTheSame(again, want) {
					t.Fatalf("%v, then %v", want, again)
				}
			}
		}
	}
}

// The rule that results share nothing: what is written to a grid later doesn't show in them.
func TestResultsStandOnTheirOwn(t *testing.T) {
	g, p := filled(3, 3, 1, number), filled(2, 2, 50, number)
	got, want := everyResult(g, p, 1, 1), everyResult(g.Clone(), p.Clone(), 1, 1)
	clear(g.Cells)
	clear(p.Cells)
	if !isTheSame(got, want) {
		t.Errorf("%v; want %v", got, want)
	}
	grids := []Grid[int]{{2, 2, []int{1, 2, 3, 4}}, {2, 2, []int{1, 2, 3}}}
	for _, h := range grids { // the unchanged grid beside an error stands on its own too
		kept := slices.Clone(h.Cells)
		set, _ := h.Set(9, 9, 1)
		pasted, _ := h.Paste(p, 9, 9)
		clear(set.Cells)
		clear(pasted.Cells)
		if !slices.Equal(h.Cells, kept) {
			t.Errorf("changed: %v; was %v", h, kept)
		}
	}
}

// The rule that elements beyond a slice's length are neither read nor written.
func TestCapacityDoesNotCount(t *testing.T) {
	under := []int{1, 2, 3, 4, 5, 6, 7, 8, 9}
	kept := slices.Clone(under)
	for n := range 9 {
		for w := range 4 {
			for h := range 4 {
				g := Grid[int]{w, h, under[:n]}
				if g.Right() != (w*h == n) {
					t.Errorf("%v: Right %v", g, g.Right())
				}
				for x := range 4 {
					for y := range 4 {
						checkPlaces(t, g, 77, []int{x}, []int{y})
						checkCut(t, g, api.Rect{X: x, Y: y, W: 3, H: 3})
						checkPaste(t, g, filled(3, 3, 40, number), x, y)
						checkPaste(t, filled(3, 3, 40, number), g, x, y)
					}
				}
				if made := Map(g, number); len(made.Cells) != n {
					t.Errorf("Map of %d cells: %d", n, len(made.Cells))
				}
				row, _ := g.Row(0)
				_ = append(row, 88)
				_ = append(g.Clone().Cells, 88)
			}
		}
	}
	if !slices.Equal(under, kept) {
		t.Errorf("changed: %v; was %v", under, kept)
	}
}

// P1: whatever comes, the calls end, and what they answer is as the chapter says.
func FuzzEveryCallEnds(f *testing.F) {
	f.Add([]byte{1, 2, 3, 4}, 2, 2, 1, 1, 2, 2)
	f.Add([]byte{1, 2, 3, 4, 5, 6}, 3, 2, 0, 1, 1, 6)
	f.Add([]byte{}, 1<<32, 1<<32, 0, 0, -1, math.MaxInt)
	f.Add([]byte{9}, -1, -1, math.MinInt, math.MaxInt, 1, 1)
	f.Fuzz(func(t *testing.T, cells []byte, w, h, x, y, pw, ph int) {
		if isPossible(pw, ph) && (pw > 5000 || ph > 5000 || pw*ph > 5000) { // the model is slow
			pw, ph = pw%70, ph%70
		}
		kept := slices.Clone(cells)
		g := Grid[byte]{w, h, cells}
		p := Grid[byte]{pw, ph, cells}
		if n := w%9 + 9; len(cells) > 0 { // a valid one is rare
			checkFuzzed(t, Grid[byte]{n, len(cells) / n, cells[:len(cells)/n*n]}, p, x%n, y%9)
		}
		checkFuzzed(t, g, p, x, y)
		checkFuzzed(t, p, g, x, y)
		if !slices.Equal(cells, kept) {
			t.Fatalf("changed: %v; was %v", cells, kept)
		}
	})
}

func checkFuzzed(t *testing.T, g, p Grid[byte], x, y int) {
	t.Helper()
	checkPlaces(t, g, 77, []int{x, 0}, []int{y, 0})
	checkCut(t, g, api.Rect{X: x, Y: y, W: p.W, H: p.H})
	checkPaste(t, g, p, x, y)
	wantGrid(t, "Clone", g.Clone(), g, api.OK, api.OK)
	want := Grid[int]{W: g.W, H: g.H}
	for _, c := range g.Cells {
		want.Cells = append(want.Cells, int(c)+1)
	}
	wantGrid(t, "Map", Map(g, func(c byte) int { return int(c) + 1 }), want, api.OK, api.OK)
	if made, err := New[byte](p.W, p.H); (err == api.OK) != isPossible(p.W, p.H) || !made.Right() {
		t.Fatalf("New(%d, %d): error %d", p.W, p.H, err)
	}
}
