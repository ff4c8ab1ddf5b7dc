package rect

import (
	"math"
	"math/big"
	"testing"

	"gouache/api"
)

const far = api.Far

func of(x0, y0, x1, y1 int) api.Rect { return api.Rect{X0: x0, Y0: y0, X1: x1, Y1: y1} }

// edges are those that sides are tried at: the ends of All, their neighbours, and some between.
var edges = []int{-far, -far + 1, -far / 2, -1, 0, 1, 5, far / 2, far - 1, far}

// each calls do with every rectangle of these edges, those that are turned about too.
func each(edges []int, do func(r api.Rect)) {
	for _, x0 := range edges {
		for _, y0 := range edges {
			for _, x1 := range edges {
				for _, y1 := range edges {
					do(of(x0, y0, x1, y1))
				}
			}
		}
	}
}

// eachSide calls do with every pair of edges, the first one below the second.
func eachSide(do func(from, to int)) {
	for _, from := range edges {
		for _, to := range edges {
			if from < to {
				do(from, to)
			}
		}
	}
}

// inside is the chapter's own word for a point of a rectangle.
func inside(r api.Rect, x, y int) bool {
	return x >= r.X0 && x < r.X1 && y >= r.Y0 && y < r.Y1
}

// points are the small rectangles' points, and a row and a column of others at each side.
func points(do func(x, y int)) {
	for x := -2; x <= 2; x++ {
		for y := -2; y <= 2; y++ {
			do(x, y)
		}
	}
}

// count counts the points of a small rectangle one by one.
func count(r api.Rect) int {
	n := 0
	points(func(x, y int) {
		if inside(r, x, y) {
			n++
		}
	})
	return n
}

var small = []int{-1, 0, 1, 2}

// P3.1
func TestAll(t *testing.T) {
	if got := All(); got != of(-(1<<42), -(1<<42), 1<<42, 1<<42) {
		t.Errorf("All() = %v", got)
	}
	for _, x := range []int{-far, 0, far - 1} {
		for _, y := range []int{-far, 0, far - 1} {
			if !Has(All(), x, y) {
				t.Errorf("All has no %d, %d", x, y)
			}
		}
	}
	for _, out := range []int{-far - 1, far, math.MinInt, math.MaxInt} {
		if Has(All(), out, 0) || Has(All(), 0, out) {
			t.Errorf("All has %d", out)
		}
	}
}

// P3.1
func TestEmptyHasNoPoints(t *testing.T) {
	each(small, func(r api.Rect) {
		if got := Empty(r); got != (count(r) == 0) {
			t.Errorf("Empty(%v) = %t", r, got)
		}
	})
	for _, r := range []api.Rect{{}, of(3, 3, 3, 9), of(3, 3, 9, 3), of(5, 5, 4, 9), of(5, 5, 9, 4), of(far, far, -far, -far), of(far, 0, far, 1), of(-far, 0, -far, 1)} {
		if !Empty(r) {
			t.Errorf("Empty(%v) = false", r)
		}
	}
	for _, r := range []api.Rect{of(0, 0, 1, 1), All(), of(-far, -far, -far+1, -far+1), of(far-1, far-1, far, far)} {
		if Empty(r) {
			t.Errorf("Empty(%v) = true", r)
		}
	}
}

// P3.1: Has, at points of whatever numbers.
func TestHas(t *testing.T) {
	at := append([]int{math.MinInt, -far - 1, 4, far + 1, math.MaxInt}, edges...)
	each([]int{-far, -1, 0, 5, far}, func(r api.Rect) {
		for _, x := range at {
			for _, y := range at {
				if got := Has(r, x, y); got != inside(r, x, y) {
					t.Errorf("Has(%v, %d, %d) = %t", r, x, y, got)
				}
			}
		}
	})
}

// eachPair calls do with all pairs of small rectangles.
func eachPair(do func(a, b api.Rect)) {
	each(small, func(a api.Rect) {
		each(small, func(b api.Rect) { do(a, b) })
	})
}

// P3.1
func TestMeetHasWhatBothHave(t *testing.T) {
	eachPair(func(a, b api.Rect) {
		got := Meet(a, b)
		points(func(x, y int) {
			if inside(got, x, y) != (inside(a, x, y) && inside(b, x, y)) {
				t.Errorf("Meet(%v, %v) = %v: wrong at %d, %d", a, b, got, x, y)
			}
		})
		if count(got) == 0 && got != (api.Rect{}) {
			t.Errorf("Meet(%v, %v) = %v, want Rect{}", a, b, got)
		}
	})
}

// hull looks for the least rectangle of the points that one of two has.
func hull(a, b api.Rect) api.Rect {
	r, some := api.Rect{}, false
	points(func(x, y int) {
		if !inside(a, x, y) && !inside(b, x, y) {
			return
		}
		if !some {
			r, some = of(x, y, x+1, y+1), true
		}
		r = of(min(r.X0, x), min(r.Y0, y), max(r.X1, x+1), max(r.Y1, y+1))
	})
	return r
}

// P3.1
func TestJoinIsTheLeast(t *testing.T) {
	eachPair(func(a, b api.Rect) {
		if got, want := Join(a, b), hull(a, b); got != want {
			t.Errorf("Join(%v, %v) = %v, want %v", a, b, got, want)
		}
	})
}

// P3.1
func TestWithinIsOfPoints(t *testing.T) {
	eachPair(func(a, b api.Rect) {
		want := true
		points(func(x, y int) {
			want = want && (!inside(a, x, y) || inside(b, x, y))
		})
		if got := Within(a, b); got != want {
			t.Errorf("Within(%v, %v) = %t", a, b, got)
		}
	})
}

// P3.1: at the ends of the plane.
func TestMeetJoinWithinFar(t *testing.T) {
	left, right := of(-far, -far, 0, far), of(0, -far, far, far)
	if got := Meet(left, right); got != (api.Rect{}) {
		t.Errorf("Meet of halves = %v", got)
	}
	if got := Join(left, right); got != All() {
		t.Errorf("Join of halves = %v", got)
	}
	each(edges, func(r api.Rect) {
		want := r
		if Empty(r) {
			want = api.Rect{}
		}
		if got := Meet(r, All()); got != want {
			t.Errorf("Meet(%v, All) = %v", r, got)
		}
		if got := Join(r, All()); got != All() {
			t.Errorf("Join(%v, All) = %v", r, got)
		}
		if got := Join(r, of(far, far, -far, -far)); got != want {
			t.Errorf("Join(%v, empty) = %v", r, got)
		}
		if got := Join(of(far, 0, far, far), r); got != want {
			t.Errorf("Join(empty, %v) = %v", r, got)
		}
		if !Within(r, All()) {
			t.Errorf("Within(%v, All) = false", r)
		}
		if got := Within(All(), r); got != (r == All()) {
			t.Errorf("Within(All, %v) = %t", r, got)
		}
		if got := Within(r, api.Rect{}); got != Empty(r) {
			t.Errorf("Within(%v, Rect{}) = %t", r, got)
		}
	})
}

// near are the places at which sides from and to, and others by them, may differ.
func near(sides ...int) []int {
	l := []int{-far - 1, -far, far - 1, far}
	for _, s := range sides {
		l = append(l, s-1, s, s+1)
	}
	return l
}

// shifts are numbers to move by.
var shifts = []int{-far, -far + 1, -far / 2, -6, -1, 0, 1, 6, far / 2, far - 2, far - 1, far}

// movedHas says whether x is on a side that is moved, by the promise's words.
func movedHas(from, to, by, x int) bool {
	if x < -far || x >= far {
		return false
	}
	return (from == -far || x-by >= from) && (to == far || x-by < to)
}

// P3.2: Move along x and along y alone.
func TestMovedPoints(t *testing.T) {
	eachSide(func(from, to int) {
		for _, by := range shifts {
			across, down := Move(of(from, 7, to, 9), by, 0), Move(of(7, from, 9, to), 0, by)
			some := false
			for _, x := range near(from, to, from+by, to+by, across.X0, across.X1) {
				want := movedHas(from, to, by, x)
				some = some || want
				if Has(across, x, 7) != want || Has(across, x, 8) != want || Has(across, x, 6) || Has(across, x, 9) {
					t.Errorf("%d to %d, moved by %d: %v, wrong at %d", from, to, by, across, x)
				}
				if Has(down, 7, x) != want || Has(down, 8, x) != want || Has(down, 6, x) || Has(down, 9, x) {
					t.Errorf("%d to %d, moved down by %d: %v, wrong at %d", from, to, by, down, x)
				}
			}
			if !some && (across != api.Rect{} || down != api.Rect{}) {
				t.Errorf("%d to %d, moved by %d: %v and %v, want Rect{}", from, to, by, across, down)
			}
		}
	})
}

// P3.2
func TestMoveExamples(t *testing.T) {
	for _, x := range []struct {
		r      api.Rect
		dx, dy int
		want   api.Rect
	}{
		{of(0, 0, 2, 2), -3, 5, of(-3, 5, -1, 7)},
		{of(0, 0, 2, 2), 0, 0, of(0, 0, 2, 2)},
		// Edges at an end of All stay.
		{All(), 17, -17, All()},
		{All(), far, -far, All()},
		{of(-far, 0, 5, far), 10, 10, of(-far, 10, 15, far)},
		{of(-far, 0, 5, far), -10, -10, of(-far, -10, -5, far)},
		{of(0, -far, far, 5), 10, 10, of(10, -far, far, 15)},
		{of(-far, -far, -far+1, -far+1), 4, 3, of(-far, -far, -far+5, -far+4)},
		{of(far-1, far-1, far, far), -4, -3, of(far-5, far-4, far, far)},
		// But not those just beside it.
		{of(-far+1, -far+1, far-1, far-1), 3, 3, of(-far+4, -far+4, far, far)},
		{of(-far+1, -far+1, far-1, far-1), -3, -3, of(-far, -far, far-4, far-4)},
		// Moved out of All, whole or in part.
		{of(0, 0, 5, 5), far, 0, api.Rect{}},
		{of(0, 0, 5, 5), 0, far, api.Rect{}},
		{of(0, 0, 5, 5), -far, 0, of(-far, 0, -far+5, 5)},
		{of(-5, -5, 0, 0), -far, 0, api.Rect{}},
		{of(-5, -5, 0, 0), 0, -far, api.Rect{}},
		{of(0, 0, 5, 5), far - 2, 0, of(far-2, 0, far, 5)},
		{of(0, 0, 5, 5), 0, far - 1, of(0, far-1, 5, far)},
		{of(-far, 0, -far+1, 1), -1, 0, api.Rect{}},
		{of(far-1, 0, far, 1), 1, 0, api.Rect{}},
		// Empty.
		{api.Rect{}, 1, 1, api.Rect{}},
		{of(3, 3, 3, 9), 1, 1, api.Rect{}},
		{of(3, 9, 5, 3), 1, 1, api.Rect{}},
		{of(far, 0, -far, 1), 1, 1, api.Rect{}},
	} {
		if got := Move(x.r, x.dx, x.dy); got != x.want {
			t.Errorf("Move(%v, %d, %d) = %v, want %v", x.r, x.dx, x.dy, got, x.want)
		}
	}
}

// P3.2
func TestGrowExamples(t *testing.T) {
	for _, x := range []struct {
		r    api.Rect
		by   [4]int
		want api.Rect
	}{
		{of(0, 0, 5, 5), [4]int{}, of(0, 0, 5, 5)},
		{of(0, 0, 5, 5), [4]int{1, 0, 0, 0}, of(-1, 0, 5, 5)},
		{of(0, 0, 5, 5), [4]int{0, 1, 0, 0}, of(0, -1, 5, 5)},
		{of(0, 0, 5, 5), [4]int{0, 0, 1, 0}, of(0, 0, 6, 5)},
		{of(0, 0, 5, 5), [4]int{0, 0, 0, 1}, of(0, 0, 5, 6)},
		// Cut to All.
		{of(0, 0, 5, 5), [4]int{far, far, far, far}, All()},
		{of(1, 1, 5, 5), [4]int{far, far, far - 6, far - 6}, of(1-far, 1-far, far-1, far-1)},
		{All(), [4]int{1, 2, 3, 4}, All()},
		{All(), [4]int{far, far, far, far}, All()},
		{of(-far+2, -far+2, far-2, far-2), [4]int{1, 2, 3, far}, of(-far+1, -far, far, far)},
		{of(-far, -far, -far+1, -far+1), [4]int{9, 9, 2, 3}, of(-far, -far, -far+3, -far+4)},
		{of(far-1, far-1, far, far), [4]int{2, 3, 9, 9}, of(far-3, far-4, far, far)},
		// Empty.
		{of(5, 5, 5, 5), [4]int{1, 1, 1, 1}, api.Rect{}},
		{of(5, 5, 9, 4), [4]int{9, 9, 9, 9}, api.Rect{}},
		{of(5, 5, 4, 9), [4]int{far, far, far, far}, api.Rect{}},
		{api.Rect{}, [4]int{}, api.Rect{}},
	} {
		if got := Grow(x.r, x.by[0], x.by[1], x.by[2], x.by[3]); got != x.want {
			t.Errorf("Grow(%v, %v) = %v, want %v", x.r, x.by, got, x.want)
		}
	}
}

// P3.2: a point is in what is grown, if a point of r is as near, within All.
func TestGrownPoints(t *testing.T) {
	sizes := []int{0, 1, 6, far / 2, far - 1, far}
	eachSide(func(from, to int) {
		for _, less := range sizes {
			for _, more := range sizes {
				across, down := Grow(of(from, 7, to, 9), less, 0, more, 0), Grow(of(7, from, 9, to), 0, less, 0, more)
				for _, x := range near(from, to, from-less, to+more) {
					want := x >= -far && x < far && x+less >= from && x-more < to
					if Has(across, x, 7) != want || Has(across, x, 8) != want || Has(across, x, 6) || Has(across, x, 9) {
						t.Errorf("%d to %d, grown by %d and %d: %v, wrong at %d", from, to, less, more, across, x)
					}
					if Has(down, 7, x) != want || Has(down, 8, x) != want || Has(down, 6, x) || Has(down, 9, x) {
						t.Errorf("%d to %d, grown by %d and %d down: %v, wrong at %d", from, to, less, more, down, x)
					}
				}
			}
		}
	})
}

// wide works an area out in numbers without bound.
func wide(r api.Rect) int {
	w, h := big.NewInt(int64(max(0, r.X1-r.X0))), big.NewInt(int64(max(0, r.Y1-r.Y0)))
	n := w.Mul(w, h)
	if most := big.NewInt(api.MaxArea); n.Cmp(most) > 0 {
		n = most
	}
	return int(n.Int64())
}

// P3.2
func TestArea(t *testing.T) {
	each(small, func(r api.Rect) {
		if got := Area(r); got != count(r) {
			t.Errorf("Area(%v) = %d, want %d", r, got, count(r))
		}
	})
	each(edges, func(r api.Rect) {
		if got, want := Area(r), wide(r); got != want {
			t.Errorf("Area(%v) = %d, want %d", r, got, want)
		}
	})
}

// P3.2: by MaxArea, and where a product would come round.
func TestAreaByItsBound(t *testing.T) {
	for _, x := range []struct {
		w, h, want int
	}{
		{1 << 31, 1 << 30, 1 << 61},
		{1<<31 - 1, 1 << 30, 1<<61 - 1<<30},
		{1<<31 + 1, 1 << 30, 1 << 61},
		{1 << 42, 1 << 19, 1 << 61},
		{1 << 42, 1<<19 - 1, 1<<61 - 1<<42},
		{1 << 43, 1 << 18, 1 << 61},
		{1 << 43, 1<<18 - 1, 1<<61 - 1<<43},
		{1 << 32, 1 << 31, 1 << 61},
		{1 << 32, 1 << 32, 1 << 61},
		{1 << 43, 1 << 21, 1 << 61},
		{1 << 43, 1 << 43, 1 << 61},
		{1 << 43, 1<<21 + 1, 1 << 61},
		{1 << 43, 1, 1 << 43},
		{1 << 43, 0, 0},
	} {
		across, down := of(-far, -far, x.w-far, x.h-far), of(-far, -far, x.h-far, x.w-far)
		if Area(across) != x.want || Area(down) != x.want {
			t.Errorf("Area of %d by %d = %d and %d, want %d", x.w, x.h, Area(across), Area(down), x.want)
		}
	}
}

// The chapter's examples.
func TestExamples(t *testing.T) {
	if got := Meet(of(0, 0, 4, 4), of(2, 2, 9, 9)); got != of(2, 2, 4, 4) {
		t.Errorf("Meet = %v", got)
	}
	if got := Join(of(0, 0, 1, 1), of(5, 5, 6, 6)); got != of(0, 0, 6, 6) {
		t.Errorf("Join = %v", got)
	}
	if got := Grow(of(0, 0, 1, 1), 1, 2, 3, 4); got != of(-1, -2, 4, 5) {
		t.Errorf("Grow = %v", got)
	}
}

// P1 of the whole: no call panics, at whatever it is given.
func TestWrongInputsEnd(t *testing.T) {
	wrong := []int{math.MinInt, -far - 1, 0, far + 1, math.MaxInt}
	each(wrong, func(r api.Rect) {
		Empty(r)
		Area(r)
		for _, n := range wrong {
			Has(r, n, n)
			Move(r, n, -n)
			Grow(r, n, n, n, n)
			Meet(r, of(n, n, 0, 0))
			Join(of(0, 0, n, n), r)
			Within(r, of(n, 0, 0, n))
		}
	})
}
