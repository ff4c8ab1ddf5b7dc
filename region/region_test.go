package region

import (
	"math"
	"math/rand"
	"slices"
	"testing"

	"gouache/api"
)

const far = api.Far

func of(x0, y0, x1, y1 int) api.Rect { return api.Rect{X0: x0, Y0: y0, X1: x1, Y1: y1} }

// wide is how many cells a grid has in each direction.
const wide = 7

// grid says which cells a set has, by row and column. Where the cells' edges lie, a test says by its lines: cell k goes
// from lines[k] to lines[k+1], both ways.
type grid [wide][wide]bool

var (
	// small are lines one apart: each cell is one point.
	small = [wide + 1]int{-3, -2, -1, 0, 1, 2, 3, 4}
	// ends are lines at the ends of the plane and by them.
	ends = [wide + 1]int{-far, -far + 1, -5, 0, 1, far / 2, far - 1, far}
)

// cells answers which cells a list of rectangles with edges on these lines has, cell by cell.
func cells(l []api.Rect, lines [wide + 1]int) grid {
	var g grid
	for y := range wide {
		for x := range wide {
			for _, r := range l {
				g[y][x] = g[y][x] || r.X0 <= lines[x] && lines[x] < r.X1 && r.Y0 <= lines[y] && lines[y] < r.Y1
			}
		}
	}
	return g
}

// right answers the right region of a grid: each row's runs, and below them as many rows more as look the same.
func (g grid) right(lines [wide + 1]int) api.Region {
	var made api.Region
	for y := 0; y < wide; {
		below := y + 1
		for below < wide && g[below] == g[y] {
			below++
		}
		for x := 0; x < wide; x++ {
			if from := x; g[y][x] {
				for x < wide && g[y][x] {
					x++
				}
				made = append(made, of(lines[from], lines[y], lines[x], lines[below]))
			}
		}
		y = below
	}
	return made
}

// with answers the cells that are taken, of two grids.
func (g grid) with(h grid, taken func(a, b bool) bool) grid {
	var made grid
	for y := range wide {
		for x := range wide {
			made[y][x] = taken(g[y][x], h[y][x])
		}
	}
	return made
}

// chance answers numbers that look random, the same ones each time.
func chance() *rand.Rand { return rand.New(rand.NewSource(4)) }

// list answers up to n rectangles with edges on the lines; some are empty, or turned about.
func list(c *rand.Rand, n int, lines [wide + 1]int) []api.Rect {
	l := make([]api.Rect, c.Intn(n+1))
	for i := range l {
		at := func() int { return lines[c.Intn(wide+1)] }
		l[i] = of(at(), at(), at(), at())
	}
	return l
}

// blot answers a grid of which each cell is in by one chance in n.
func blot(c *rand.Rand, n int) grid {
	var g grid
	for y := range wide {
		for x := range wide {
			g[y][x] = c.Intn(n) == 0
		}
	}
	return g
}

// bits answers the grid of 3 by 3 cells that a number's bits say.
func bits(n int) grid {
	var g grid
	for k := range 9 {
		g[2+k/3][2+k%3] = n>>k&1 == 1
	}
	return g
}

// P4.1: Of rectangles that lie anyhow, in any order, empty ones and the same ones among them.
func TestOf(t *testing.T) {
	c := chance()
	for _, lines := range [][wide + 1]int{small, ends} {
		for range 20000 {
			l := list(c, 6, lines)
			if got, want := Of(l...), cells(l, lines).right(lines); !slices.Equal(got, want) {
				t.Fatal(l, got, want)
			}
		}
	}
}

// P4.1: Of no rectangle, of empty ones, of one, of all.
func TestOfFew(t *testing.T) {
	all := of(-far, -far, far, far)
	for _, c := range []struct {
		l    []api.Rect
		want api.Region
	}{
		{nil, nil},
		{[]api.Rect{}, nil},
		{[]api.Rect{{}}, nil},
		{[]api.Rect{of(3, 3, 3, 9), of(3, 3, 9, 3), of(5, 5, 2, 2)}, nil},
		{[]api.Rect{of(1, 2, 3, 4)}, api.Region{of(1, 2, 3, 4)}},
		{[]api.Rect{of(1, 2, 3, 4), of(1, 2, 3, 4)}, api.Region{of(1, 2, 3, 4)}},
		{[]api.Rect{all}, api.Region{all}},
		{[]api.Rect{of(-5, -5, 5, 5), all, of(0, 0, 1, far)}, api.Region{all}},
	} {
		if got := Of(c.l...); !slices.Equal(got, c.want) {
			t.Error(c.l, got, c.want)
		}
	}
}

// P4.1: Of hangs on the points alone, not on how many rectangles tell them, nor on their order.
func TestOfManyPoints(t *testing.T) {
	var l []api.Rect
	for y := range 60 {
		for x := range 60 {
			l = append(l, of(x, y, x+1, y+1))
		}
	}
	chance().Shuffle(len(l), func(i, j int) { l[i], l[j] = l[j], l[i] })
	if got := Of(l...); !slices.Equal(got, api.Region{of(0, 0, 60, 60)}) {
		t.Error(got)
	}
}

// rules are the three ways two sets are put together, each beside the function that must do so.
var rules = []struct {
	name  string
	does  func(a, b api.Region) api.Region
	taken func(a, b bool) bool
}{
	{"Join", Join, func(a, b bool) bool { return a || b }},
	{"Meet", Meet, func(a, b bool) bool { return a && b }},
	{"Cut", Cut, func(a, b bool) bool { return a && !b }},
}

// P4.1: Join, Meet and Cut of all pairs of sets of 3 by 3 cells.
func TestPairsOfAllSmallSets(t *testing.T) {
	var grids [512]grid
	var regions [512]api.Region
	for n := range grids {
		grids[n] = bits(n)
		regions[n] = grids[n].right(small)
	}
	for _, rule := range rules {
		for i, a := range regions {
			for j, b := range regions {
				got := rule.does(a, b)
				// Bit by bit, so that the answer's grid needn't be made anew for each pair.
				want := 0
				for k := range 9 {
					if rule.taken(i>>k&1 == 1, j>>k&1 == 1) {
						want |= 1 << k
					}
				}
				if !slices.Equal(got, regions[want]) {
					t.Fatal(rule.name, a, b, got, regions[want])
				}
			}
		}
	}
}

// P4.1: Join, Meet and Cut of greater sets, to the ends of the plane.
func TestPairs(t *testing.T) {
	c := chance()
	for _, lines := range [][wide + 1]int{small, ends} {
		for range 5000 {
			g, h := blot(c, 1+c.Intn(4)), blot(c, 1+c.Intn(4))
			for _, rule := range rules {
				a, b := g.right(lines), h.right(lines)
				if got, want := rule.does(a, b), g.with(h, rule.taken).right(lines); !slices.Equal(got, want) {
					t.Fatal(rule.name, a, b, got, want)
				}
			}
		}
	}
}

// P4.1: sets beside nothing, beside themselves, and beside all.
func TestPairsWithNothingAndAll(t *testing.T) {
	c := chance()
	all := api.Region{of(-far, -far, far, far)}
	for range 500 {
		a := blot(c, 2).right(ends)
		for _, none := range []api.Region{nil, {}} {
			if !slices.Equal(Join(a, none), a) || !slices.Equal(Join(none, a), a) || len(Meet(a, none)) != 0 || len(Meet(none, a)) != 0 || !slices.Equal(Cut(a, none), a) || len(Cut(none, a)) != 0 {
				t.Fatal("nothing", a)
			}
		}
		if !slices.Equal(Join(a, a), a) || !slices.Equal(Meet(a, a), a) || len(Cut(a, a)) != 0 {
			t.Fatal("itself", a)
		}
		if !slices.Equal(Join(a, all), all) || !slices.Equal(Meet(all, a), a) || len(Cut(a, all)) != 0 || !slices.Equal(Cut(all, Cut(all, a)), a) {
			t.Fatal("all", a)
		}
	}
}

// P4.1: for each set there is just one right region, so of lists of three small rectangles just those are right that
// are the right regions of their points.
func TestRightOfAllSmallLists(t *testing.T) {
	var rects []api.Rect
	for n := range 81 {
		rects = append(rects, of(n%3, n/3%3, n/9%3, n/27))
	}
	check := func(l ...api.Rect) {
		if got, want := Right(l), slices.Equal(l, cells(l, small).right(small)); got != want {
			t.Fatal(l, got)
		}
	}
	for _, a := range rects {
		check(a)
		for _, b := range rects {
			check(a, b)
			for _, c := range rects {
				check(a, b, c)
			}
		}
	}
}

// P4.1: right regions are right; with one edge moved, or with two rectangles changed about, they are so only if they
// are the right region of what they then have.
func TestRightOfNearlyRight(t *testing.T) {
	c := chance()
	for range 20000 {
		l := blot(c, 2).right(small)
		if !Right(l) {
			t.Fatal(l)
		}
		if len(l) == 0 {
			continue
		}
		at := &l[c.Intn(len(l))]
		edge := []*int{&at.X0, &at.Y0, &at.X1, &at.Y1}[c.Intn(4)]
		*edge = small[c.Intn(wide+1)]
		if c.Intn(4) == 0 {
			i, j := c.Intn(len(l)), c.Intn(len(l))
			l[i], l[j] = l[j], l[i]
		}
		if got, want := Right(l), slices.Equal(l, cells(l, small).right(small)); got != want {
			t.Fatal(l, got)
		}
	}
}

// P4.1: each of the words that make a region right, alone broken; and each at the edge where it just holds.
func TestRightByItsWords(t *testing.T) {
	for _, c := range []struct {
		l    api.Region
		want bool
	}{
		{nil, true},
		{api.Region{}, true},
		{api.Region{of(-far, -far, far, far)}, true},
		{api.Region{of(-far-1, 0, 1, 1)}, false},
		{api.Region{of(0, -far-1, 1, 1)}, false},
		{api.Region{of(0, 0, far+1, 1)}, false},
		{api.Region{of(0, 0, 1, far+1)}, false},
		{api.Region{of(math.MinInt, math.MinInt, math.MaxInt, math.MaxInt)}, false},
		{api.Region{{}}, false},
		{api.Region{of(0, 0, 0, 1)}, false},
		{api.Region{of(0, 0, 1, 0)}, false},
		{api.Region{of(1, 0, 0, 1)}, false},
		{api.Region{of(0, 0, 1, 1), of(2, 0, 3, 1)}, true},
		{api.Region{of(2, 0, 3, 1), of(0, 0, 1, 1)}, false},
		{api.Region{of(0, 0, 1, 1), of(1, 0, 3, 1)}, false},
		{api.Region{of(0, 0, 2, 1), of(1, 0, 3, 1)}, false},
		{api.Region{of(0, 0, 1, 2), of(2, 0, 3, 1)}, false},
		{api.Region{of(0, 0, 1, 1), of(2, 0, 3, 2)}, false},
		{api.Region{of(0, 0, 1, 1), of(0, 1, 2, 2)}, true},
		{api.Region{of(0, 0, 1, 2), of(0, 1, 2, 2)}, false},
		{api.Region{of(0, 1, 2, 2), of(0, 0, 1, 1)}, false},
		{api.Region{of(0, 0, 1, 1), of(0, 1, 1, 2)}, false},
		{api.Region{of(0, 0, 1, 1), of(0, 2, 1, 3)}, true},
		{api.Region{of(0, 0, 1, 1), of(3, 0, 4, 1), of(0, 1, 1, 2), of(3, 1, 4, 2)}, false},
		{api.Region{of(0, 0, 1, 1), of(3, 0, 4, 1), of(0, 1, 1, 2), of(3, 1, 5, 2)}, true},
		{api.Region{of(0, 0, 1, 1), of(3, 0, 4, 1), of(0, 1, 1, 2)}, true},
	} {
		if got := Right(c.l); got != c.want {
			t.Error(c.l, got)
		}
	}
}

// P4.1: Has, of whatever x and y.
func TestHas(t *testing.T) {
	c := chance()
	for range 500 {
		g := blot(c, 2)
		a := g.right(ends)
		for y := range wide {
			for x := range wide {
				if Has(a, ends[x], ends[y]) != g[y][x] || Has(a, ends[x+1]-1, ends[y+1]-1) != g[y][x] {
					t.Fatal(a, x, y)
				}
			}
		}
		for _, out := range []int{math.MinInt, -far - 1, far, math.MaxInt} {
			for _, in := range []int{math.MinInt, -far, 0, far - 1, math.MaxInt} {
				if Has(a, out, in) || Has(a, in, out) {
					t.Fatal(a, out, in)
				}
			}
		}
	}
}

// P4.2: what is moved has the points that were there, moved.
func TestMovedPoints(t *testing.T) {
	c := chance()
	for range 2000 {
		a := blot(c, 2).right(small)
		dx, dy := c.Intn(9)-4, c.Intn(9)-4
		got := Move(a, dx, dy)
		if !Right(got) {
			t.Fatal(a, dx, dy, got)
		}
		for y := -9; y < 9; y++ {
			for x := -9; x < 9; x++ {
				if Has(got, x, y) != Has(a, x-dx, y-dy) {
					t.Fatal(a, dx, dy, got)
				}
			}
		}
	}
}

// P4.2: what is grown has the points that are as near to one that was there.
func TestGrownPoints(t *testing.T) {
	c := chance()
	for range 500 {
		a := blot(c, 2+c.Intn(20)).right(small)
		left, up, right, down := c.Intn(4), c.Intn(4), c.Intn(4), c.Intn(4)
		got := Grow(a, left, up, right, down)
		if !Right(got) {
			t.Fatal(a, got)
		}
		for y := -9; y < 9; y++ {
			for x := -9; x < 9; x++ {
				// A point comes of those that stand, of it, on the side away from which they grew.
				want := len(Meet(a, api.Region{of(x-right, y-down, x+left+1, y+up+1)})) > 0
				if Has(got, x, y) != want {
					t.Fatal(a, left, up, right, down, got, x, y)
				}
			}
		}
	}
}

// P4.2: at the ends of the plane rectangles are moved by chapter 3: an edge there stays, and what leaves it is gone.
func TestMoveFar(t *testing.T) {
	for _, c := range []struct {
		a      api.Region
		dx, dy int
		want   api.Region
	}{
		{nil, 5, 5, nil},
		{api.Region{of(-far, -far, far, far)}, 7, -9, api.Region{of(-far, -far, far, far)}},
		{api.Region{of(-far, 0, 0, 1), of(2, 0, far, 1)}, 5, 5, api.Region{of(-far, 5, 5, 6), of(7, 5, far, 6)}},
		{api.Region{of(0, 0, 1, 1), of(far-3, 0, far-1, 1)}, 2, 0, api.Region{of(2, 0, 3, 1), of(far-1, 0, far, 1)}},
		{api.Region{of(0, 0, 1, 1), of(far-3, 0, far-1, 1)}, 3, 0, api.Region{of(3, 0, 4, 1)}},
		{api.Region{of(0, 0, 1, 1), of(5, 5, 6, 6)}, far, far, nil},
		{api.Region{of(0, 0, 1, 1), of(-3, 5, 6, 6)}, -far, 0, api.Region{of(-far, 0, -far+1, 1), of(-far, 5, -far+6, 6)}},
		{api.Region{of(0, 0, 1, 1), of(-3, 5, 6, 6)}, -far, 1, api.Region{of(-far, 1, -far+1, 2), of(-far, 6, -far+6, 7)}},
		// Two bands that differ only in what is lost become one.
		{api.Region{of(0, 0, 9, 1), of(far-2, 0, far-1, 1), of(0, 1, 9, 2)}, 2, 0, api.Region{of(2, 0, 11, 2)}},
		// The upper band's edge at the end stays, so that the band is less high.
		{api.Region{of(0, -far, 9, -far+4), of(0, -far+6, 3, -far+8)}, 0, -3, api.Region{of(0, -far, 9, -far+1), of(0, -far+3, 3, -far+5)}},
	} {
		if got := Move(c.a, c.dx, c.dy); !slices.Equal(got, c.want) {
			t.Error(c.a, c.dx, c.dy, got, c.want)
		}
	}
}

// P4.2: grown to the ends of the plane, and no further.
func TestGrowFar(t *testing.T) {
	all := api.Region{of(-far, -far, far, far)}
	for _, c := range []struct {
		a                     api.Region
		left, up, right, down int
		want                  api.Region
	}{
		{nil, far, far, far, far, nil},
		{api.Region{of(3, 3, 4, 4)}, 0, 0, 0, 0, api.Region{of(3, 3, 4, 4)}},
		{api.Region{of(3, 3, 4, 4)}, 1, 2, 3, 4, api.Region{of(2, 1, 7, 8)}},
		{api.Region{of(0, 0, 1, 1)}, far, far, far, far, all},
		{all, far, 1, 0, 3, all},
		{api.Region{of(-far, 0, -far+1, 1), of(far-1, 0, far, 1)}, 9, 0, 9, 0, api.Region{of(-far, 0, -far+10, 1), of(far-10, 0, far, 1)}},
		{api.Region{of(0, 0, 1, 1), of(3, 0, 4, 1)}, 1, 0, 1, 0, api.Region{of(-1, 0, 5, 1)}},
		{api.Region{of(0, 0, 1, 1), of(3, 0, 4, 1)}, 1, 0, 0, 0, api.Region{of(-1, 0, 1, 1), of(2, 0, 4, 1)}},
	} {
		if got := Grow(c.a, c.left, c.up, c.right, c.down); !slices.Equal(got, c.want) {
			t.Error(c.a, got, c.want)
		}
	}
}

// P4.2
func TestBounds(t *testing.T) {
	c := chance()
	for range 2000 {
		g := blot(c, 2+c.Intn(40))
		var want api.Rect
		x0, y0, x1, y1 := wide, wide, -1, -1
		for y := range wide {
			for x := range wide {
				if g[y][x] {
					x0, y0, x1, y1 = min(x0, x), min(y0, y), max(x1, x+1), max(y1, y+1)
				}
			}
		}
		if x1 >= 0 {
			want = of(ends[x0], ends[y0], ends[x1], ends[y1])
		}
		if got := Bounds(g.right(ends)); got != want {
			t.Fatal(g, got, want)
		}
	}
	if Bounds(nil) != (api.Rect{}) || Bounds(api.Region{}) != (api.Rect{}) {
		t.Error("nothing")
	}
}

// P4.2
func TestArea(t *testing.T) {
	c := chance()
	for range 2000 {
		g := blot(c, 2)
		want := 0
		for y := range wide {
			for x := range wide {
				if g[y][x] {
					want++
				}
			}
		}
		if got := Area(g.right(small)); got != want {
			t.Fatal(g, got, want)
		}
	}
}

// P4.2: by MaxArea, and where a sum would come round.
func TestAreaByItsBound(t *testing.T) {
	half := 1 << 20
	// rows are bands of a quarter of MaxArea points, a row apart.
	rows := func(n int) api.Region {
		var a api.Region
		for i := range n {
			a = append(a, of(0, i*half, 1<<39, (i+1)*half-1))
		}
		return a
	}
	few := (1 << 39) * (half - 1)
	for _, c := range []struct {
		a    api.Region
		want int
	}{
		{nil, 0},
		{rows(1), few},
		{rows(4), 4 * few},
		{rows(5), api.MaxArea},
		{rows(40), api.MaxArea},
		{api.Region{of(-far, -far, far, far)}, api.MaxArea},
		{api.Region{of(0, 0, 1<<40, 1<<21)}, api.MaxArea},
		{api.Region{of(0, 0, 1<<40, 1<<21-1)}, api.MaxArea - 1<<40},
		{api.Region{of(0, 0, 1<<40, 1<<21-1), of(0, 1<<21-1, 1<<40-1, 1<<21)}, api.MaxArea - 1},
		{api.Region{of(0, 0, 1<<40, 1<<21), of(5, 1<<21, 6, far)}, api.MaxArea},
		{api.Region{of(-far, -far, far, -1), of(-far, 1, far, 2), of(-far, 3, far, 4), of(-far, 5, far, far)}, api.MaxArea},
	} {
		if got := Area(c.a); got != c.want || !Right(c.a) {
			t.Error(c.a, got, c.want)
		}
	}
}

// marked answers the list with spare room behind it, and that room as well.
func marked(l []api.Rect) (part, whole []api.Rect) {
	whole = append(slices.Clone(l), of(7, 7, 7, 7), of(8, 8, 8, 8))
	return whole[:len(l)], whole
}

// calls are all functions that answer a region, each of two.
var calls = map[string]func(a, b api.Region) api.Region{
	"Of":   func(a, b api.Region) api.Region { return Of(a...) },
	"Join": Join,
	"Meet": Meet,
	"Cut":  Cut,
	"Move": func(a, b api.Region) api.Region { return Move(a, 0, 0) },
	"Grow": func(a, b api.Region) api.Region { return Grow(a, 0, 0, 0, 0) },
}

// P4.3: what is handed in stays, its spare room too, and whatever is done to an answer isn't seen there.
func TestHandedInStays(t *testing.T) {
	c := chance()
	for range 300 {
		l, k := blot(c, 2).right(small), blot(c, 2).right(small)
		for name, call := range calls {
			for _, second := range []api.Region{k, l, nil} {
				a, wholeA := marked(l)
				b, wholeB := marked(second)
				keptA, keptB := slices.Clone(wholeA), slices.Clone(wholeB)
				got := call(a, b)
				got = append(got, api.Rect{})[:cap(got)]
				for i := range got {
					got[i] = of(-9, -9, -9, -9)
				}
				if !slices.Equal(wholeA, keptA) || !slices.Equal(wholeB, keptB) {
					t.Fatal(name, l, second)
				}
			}
		}
	}
}

// P4.3: an answer stays as it was, whatever is done later to what was handed in, and no two answers share memory.
func TestAnswersStay(t *testing.T) {
	c := chance()
	for range 300 {
		l, k := blot(c, 2).right(small), blot(c, 2).right(small)
		for name, call := range calls {
			a, b := slices.Clone(l), slices.Clone(k)
			got, again := call(a, b), call(a, b)
			kept := slices.Clone(got)
			for _, other := range [][]api.Rect{a, b, again} {
				for i := range other {
					other[i] = of(-9, -9, -9, -9)
				}
			}
			if !slices.Equal(got, kept) {
				t.Fatal(name, l, k)
			}
		}
	}
}

// P4.3: Right, Has, Bounds and Area change nothing either.
func TestAskedStays(t *testing.T) {
	c := chance()
	for range 300 {
		a, whole := marked(blot(c, 2).right(small))
		kept := slices.Clone(whole)
		Right(a)
		Has(a, 1, 1)
		Bounds(a)
		Area(a)
		if !slices.Equal(whole, kept) {
			t.Fatal(a)
		}
	}
}

// The chapter's examples.
func TestExamples(t *testing.T) {
	if got := Of(of(0, 0, 2, 2), of(1, 1, 3, 3)); !slices.Equal(got, api.Region{of(0, 0, 2, 1), of(0, 1, 3, 2), of(1, 2, 3, 3)}) {
		t.Error(got)
	}
	if got := Of(of(0, 0, 1, 1), of(1, 0, 2, 1)); !slices.Equal(got, api.Region{of(0, 0, 2, 1)}) {
		t.Error(got)
	}
	want := api.Region{of(0, 0, 3, 1), of(0, 1, 1, 2), of(2, 1, 3, 2), of(0, 2, 3, 3)}
	if got := Cut(api.Region{of(0, 0, 3, 3)}, api.Region{of(1, 1, 2, 2)}); !slices.Equal(got, want) {
		t.Error(got)
	}
}

// P1 of the whole: no call panics, and all end, at whatever they are given.
func TestWrongInputsEnd(t *testing.T) {
	c := chance()
	numbers := []int{math.MinInt, math.MinInt + 1, -far - 1, -far, -1, 0, 1, 2, far, far + 1, math.MaxInt - 1, math.MaxInt}
	number := func() int { return numbers[c.Intn(len(numbers))] }
	wrong := func() api.Region {
		a := make(api.Region, c.Intn(6))
		for i := range a {
			a[i] = of(number(), number(), number(), number())
		}
		return a
	}
	for range 50000 {
		a, b := wrong(), wrong()
		if !Right(Of(a...)) {
			t.Fatal(a)
		}
		Join(a, b)
		Meet(a, b)
		Cut(a, b)
		Right(a)
		Has(a, number(), number())
		Move(a, number(), number())
		Grow(a, number(), number(), number(), number())
		Bounds(a)
		Area(a)
	}
}
