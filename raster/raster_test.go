package raster

import (
	"math"
	"math/rand"
	"slices"
	"testing"

	"gouache/api"
)

const far = api.Far

func of(x0, y0, x1, y1 int) api.Rect { return api.Rect{X0: x0, Y0: y0, X1: x1, Y1: y1} }

// inside is chapter 3's word for a point of a rectangle.
func inside(r api.Rect, x, y int) bool {
	return x >= r.X0 && x < r.X1 && y >= r.Y0 && y < r.Y1
}

// points calls do with each point of a box, row by row, from the left to the right, and its number.
func points(box api.Rect, do func(i, x, y int)) {
	i := 0
	for y := box.Y0; y < box.Y1; y++ {
		for x := box.X0; x < box.X1; x++ {
			do(i, x, y)
			i++
		}
	}
}

// pixel looks for a buffer's pixel by going through its box; elsewhere it is nothing.
func pixel(b api.Buffer, x, y int) api.Px {
	var p api.Px
	points(b.Box, func(i, px, py int) {
		if px == x && py == y {
			p = b.Pix[i]
		}
	})
	return p
}

// chance answers numbers that look random, the same ones each time.
func chance() *rand.Rand { return rand.New(rand.NewSource(5)) }

// colour answers a pixel that isn't nothing.
func colour(c *rand.Rand) api.Px {
	return api.Px{uint8(c.Intn(256)), uint8(c.Intn(256)), uint8(c.Intn(256)), uint8(1 + c.Intn(255))}
}

// ends are where small boxes are tried along x and along y: at the ends of the plane, and between.
var ends = []int{-far, -far + 2, -far / 2, -3, 0, far / 2, far - 7, far - 5}

// box answers a box of at most 5 by 5 points by the place x, y, within the plane; now and then an empty one.
func box(c *rand.Rand, x, y int) api.Rect {
	if c.Intn(12) == 0 {
		return api.Rect{}
	}
	x0, y0 := within(x+c.Intn(3)), within(y+c.Intn(3))
	return of(x0, y0, min(far, x0+1+c.Intn(5)), min(far, y0+1+c.Intn(5)))
}

// within answers a place at which a point of the plane is.
func within(n int) int { return max(-far, min(n, far-1)) }

// edge answers an edge by n, cut to the plane's.
func edge(n int) int { return max(-far, min(n, far)) }

// loose answers a rectangle by the place x, y, that may be empty, turned about, or as great as can be.
func loose(c *rand.Rand, x, y int) api.Rect {
	if c.Intn(6) == 0 {
		return of(-far, -far, far, far)
	}
	at := func(n int) int { return edge(n - 1 + c.Intn(9)) }
	return of(at(x), at(y), at(x), at(y))
}

// filled answers a buffer of a box (that isn't turned about), whose pixels are unlike.
func filled(c *rand.Rand, box api.Rect) api.Buffer {
	b := api.Buffer{Box: box}
	points(box, func(_, _, _ int) { b.Pix = append(b.Pix, colour(c)) })
	return b
}

// ringed answers b in the middle of a list that has pixels ahead of b's and behind them, and that list.
func ringed(b api.Buffer) (api.Buffer, []api.Px) {
	ring := []api.Px{{7, 7, 7, 7}, {8, 8, 8, 8}, {9, 9, 9, 9}}
	whole := slices.Concat(ring, b.Pix, ring)
	return api.Buffer{Box: b.Box, Pix: whole[len(ring) : len(ring)+len(b.Pix)]}, whole
}

// places tries do at each of the ends, both ways, many times.
func places(n int, do func(c *rand.Rand, x, y int)) {
	c := chance()
	for range n {
		for _, x := range ends {
			for _, y := range ends {
				do(c, x, y)
			}
		}
	}
}

// P5.1: New, of boxes that aren't empty.
func TestNew(t *testing.T) {
	places(30, func(c *rand.Rand, x, y int) {
		r := box(c, x, y)
		b := New(r)
		if b.Box != r || len(b.Pix) != (r.X1-r.X0)*(r.Y1-r.Y0) || !Right(b) {
			t.Fatal(r, b)
		}
		for _, p := range b.Pix {
			if p != (api.Px{}) {
				t.Fatal(r, b)
			}
		}
	})
}

// P5.1: New, of empty ones, however they are told.
func TestNewOfEmpty(t *testing.T) {
	for _, r := range []api.Rect{{}, of(3, 3, 3, 9), of(3, 3, 9, 3), of(5, 5, 2, 2), of(5, 5, 9, 2), of(5, 5, 2, 9), of(far, far, far, far), of(far, far, -far, -far), of(far, -far, far, far)} {
		if b := New(r); b.Box != (api.Rect{}) || len(b.Pix) != 0 || !Right(b) {
			t.Error(r, b)
		}
	}
}

// P5.1: Right, by each of its words, at the edges where they just hold, and just don't.
func TestRight(t *testing.T) {
	for _, c := range []struct {
		box  api.Rect
		n    int
		want bool
	}{
		{api.Rect{}, 0, true},
		{api.Rect{}, 1, false},
		{of(1, 1, 1, 1), 0, false},
		{of(0, 0, 0, 5), 0, false},
		{of(0, 0, 5, 0), 0, false},
		{of(2, 2, 1, 1), 0, false},
		{of(2, 2, 1, 1), 1, false},
		{of(2, 0, 0, 2), 4, false},
		{of(0, 0, 1, 1), 1, true},
		{of(0, 0, 1, 1), 0, false},
		{of(0, 0, 1, 1), 2, false},
		{of(-1, -2, 2, 2), 12, true},
		{of(-1, -2, 2, 2), 11, false},
		{of(-1, -2, 2, 2), 13, false},
		{of(-1, -2, 2, 2), 0, false},
		{of(-far, -far, -far+2, -far+1), 2, true},
		{of(far-1, far-2, far, far), 2, true},
		{of(-far-1, 0, -far+1, 1), 2, false},
		{of(0, -far-1, 1, -far+1), 2, false},
		{of(far-1, 0, far+1, 1), 2, false},
		{of(0, far-1, 1, far+1), 2, false},
		{of(far, 0, far+1, 1), 1, false},
		{of(-far-1, 0, -far, 1), 1, false},
		{of(math.MinInt, 0, math.MinInt+1, 1), 1, false},
		{of(0, math.MaxInt-1, 1, math.MaxInt), 1, false},
		// Products that come round to no more than what there is.
		{of(math.MinInt, math.MinInt, math.MaxInt, math.MaxInt), 1, false},
		{of(math.MinInt, 0, math.MaxInt, 1), 0, false},
		{of(-far, -far, far, far), 0, false},
		{of(0, 0, 1<<40, 1<<24), 0, false},
		{of(0, 0, 1<<41, 1<<41), 0, false},
		{of(0, 0, 1<<32+1, 1<<32+1), 1, false},
	} {
		if got := Right(api.Buffer{Box: c.box, Pix: make([]api.Px, c.n)}); got != c.want {
			t.Error(c.box, c.n, got)
		}
	}
	if !Right(api.Buffer{}) || !Right(api.Buffer{Pix: []api.Px{}}) {
		t.Error("nil and empty are one")
	}
}

// P5.1: Right hangs on how many pixels there are, not on which, nor on spare room.
func TestRightOfSpareRoom(t *testing.T) {
	pix := make([]api.Px, 6, 99)
	if !Right(api.Buffer{Box: of(0, 0, 3, 2), Pix: pix}) || Right(api.Buffer{Box: of(0, 0, 9, 11), Pix: pix}) || Right(api.Buffer{Pix: pix}) {
		t.Error("spare room was asked")
	}
	if !Right(api.Buffer{Box: of(0, 0, 1, 1), Pix: []api.Px{{255, 255, 255, 0}}}) {
		t.Error("pixels were asked")
	}
}

// outer are numbers of places that no box has.
var outer = []int{math.MinInt, math.MinInt + 1, -far - 1, far, far + 1, math.MaxInt - 1, math.MaxInt}

// P5.1: At, at all points of a box and around it, and at whatever numbers.
func TestAt(t *testing.T) {
	places(5, func(c *rand.Rand, x, y int) {
		b := filled(c, box(c, x, y))
		points(of(b.Box.X0-2, b.Box.Y0-2, b.Box.X1+2, b.Box.Y1+2), func(_, x, y int) {
			if got, want := At(b, x, y), pixel(b, x, y); got != want {
				t.Fatal(b, x, y, got, want)
			}
		})
		for _, out := range outer {
			for _, n := range append([]int{b.Box.X0, b.Box.Y0}, outer...) {
				if At(b, out, n) != (api.Px{}) || At(b, n, out) != (api.Px{}) {
					t.Fatal(b, out, n)
				}
			}
		}
	})
}

// P5.2: Put changes the one pixel, if the box has the point; and nothing around it.
func TestPut(t *testing.T) {
	places(3, func(c *rand.Rand, x, y int) {
		old := filled(c, box(c, x, y))
		points(of(old.Box.X0-1, old.Box.Y0-1, old.Box.X1+1, old.Box.Y1+1), func(_, x, y int) {
			b, whole := ringed(old)
			p := colour(c)
			Put(&b, x, y, p)
			check(t, old, b, whole, func(px, py int) api.Px {
				if px == x && py == y {
					return p
				}
				return pixel(old, px, py)
			})
		})
	})
}

// P5.2: Put at whatever numbers, and of nothing.
func TestPutElsewhere(t *testing.T) {
	old := filled(chance(), of(-2, -2, 3, 3))
	for _, out := range outer {
		for _, n := range append([]int{-2, 0, 2}, outer...) {
			b, whole := ringed(old)
			Put(&b, out, n, api.Px{1, 1, 1, 1})
			Put(&b, n, out, api.Px{1, 1, 1, 1})
			check(t, old, b, whole, func(x, y int) api.Px { return pixel(old, x, y) })
		}
	}
	Put(&old, 1, 1, api.Px{})
	if At(old, 1, 1) != (api.Px{}) || At(old, 0, 1) == (api.Px{}) {
		t.Error(old)
	}
}

// check holds a ringed buffer, into which something was written, against what its pixels must be, and against what lay around them.
func check(t *testing.T, old, b api.Buffer, whole []api.Px, want func(x, y int) api.Px) {
	t.Helper()
	made := api.Buffer{Box: old.Box}
	points(old.Box, func(_, x, y int) { made.Pix = append(made.Pix, want(x, y)) })
	_, all := ringed(made)
	if b.Box != old.Box || !slices.Equal(b.Pix, made.Pix) || !slices.Equal(whole, all) {
		t.Fatalf("%v: %v\nwant %v", b.Box, whole, all)
	}
}

// P5.2
func TestFill(t *testing.T) {
	places(40, func(c *rand.Rand, x, y int) {
		old, r, p := filled(c, box(c, x, y)), loose(c, x, y), colour(c)
		if c.Intn(4) == 0 {
			p = api.Px{}
		}
		b, whole := ringed(old)
		Fill(&b, r, p)
		check(t, old, b, whole, func(x, y int) api.Px {
			if inside(r, x, y) {
				return p
			}
			return pixel(old, x, y)
		})
	})
}

// copies tries Copy of one buffer into another, and holds each pixel against the promise's words.
func copies(t *testing.T, old, from api.Buffer, r api.Rect, dx, dy int) {
	t.Helper()
	b, whole := ringed(old)
	src, wholeSrc := ringed(from)
	kept := slices.Clone(wholeSrc)
	Copy(&b, src, r, dx, dy)
	check(t, old, b, whole, func(x, y int) api.Px {
		if inside(r, x, y) {
			return pixel(from, x-dx, y-dy)
		}
		return pixel(old, x, y)
	})
	if src.Box != from.Box || !slices.Equal(wholeSrc, kept) {
		t.Fatal("from was changed", from, src)
	}
}

// P5.2: Copy from boxes that are anywhere, by shifts that bring them near.
func TestCopy(t *testing.T) {
	places(3, func(c *rand.Rand, x, y int) {
		for _, fx := range ends {
			for _, fy := range ends {
				// Apart by more than Far they can't be brought near; then nothing comes.
				dx, dy := edge(x-fx-3+c.Intn(7)), edge(y-fy-3+c.Intn(7))
				copies(t, filled(c, box(c, x, y)), filled(c, box(c, fx, fy)), loose(c, x, y), dx, dy)
			}
		}
	})
}

// P5.2: Copy by no shift, and by shifts as great as can be.
func TestCopyByFar(t *testing.T) {
	shifts := []int{-far, -far + 1, -1, 0, 1, far - 1, far}
	places(3, func(c *rand.Rand, x, y int) {
		for _, dx := range shifts {
			for _, dy := range shifts {
				fx, fy := edge(x-dx), edge(y-dy)
				copies(t, filled(c, box(c, x, y)), filled(c, box(c, fx, fy)), of(-far, -far, far, far), dx, dy)
			}
		}
	})
}

// P5.2: a buffer at an end of the plane is nothing beyond it: what is shifted inward leaves nothing behind.
func TestCopyFromTheEnds(t *testing.T) {
	c := chance()
	all := of(-far, -far, far, far)
	for _, r := range []api.Rect{of(-far, -far, -far+3, -far+3), of(far-3, far-3, far, far), of(-far, far-3, -far+3, far), of(far-3, -far, far, -far+3)} {
		for dx := -4; dx <= 4; dx++ {
			for dy := -4; dy <= 4; dy++ {
				copies(t, filled(c, r), filled(c, r), all, dx, dy)
			}
		}
	}
}

// P5.2: Copy from an empty buffer clears; into an empty one it does nothing.
func TestCopyOfEmpty(t *testing.T) {
	c := chance()
	some := filled(c, of(-2, -2, 3, 3))
	for _, r := range []api.Rect{{}, of(0, 0, 1, 1), of(1, 1, 0, 0), of(-9, 0, 9, 1), of(-far, -far, far, far)} {
		for _, d := range []int{-far, -1, 0, 1, far} {
			copies(t, some, api.Buffer{}, r, d, -d)
			copies(t, api.Buffer{}, some, r, d, -d)
			copies(t, api.Buffer{}, api.Buffer{}, r, d, -d)
		}
	}
}

// P5.2
func TestWindow(t *testing.T) {
	places(60, func(c *rand.Rand, x, y int) {
		b, r := filled(c, box(c, x, y)), box(c, x, y)
		w := Window(b, r)
		want := api.Buffer{Box: r}
		points(r, func(_, x, y int) { want.Pix = append(want.Pix, pixel(b, x, y)) })
		if w.Box != r || !slices.Equal(w.Pix, want.Pix) {
			t.Fatal(b, w, want)
		}
	})
}

// P5.2: windows that are empty, or of a buffer that is, or far from it.
func TestWindowOfNothing(t *testing.T) {
	b := filled(chance(), of(-2, -2, 3, 3))
	for _, r := range []api.Rect{{}, of(1, 1, 1, 2), of(1, 1, 2, 1), of(2, 2, 0, 0), of(far, far, -far, -far)} {
		if w := Window(b, r); w.Box != (api.Rect{}) || len(w.Pix) != 0 {
			t.Error(r, w)
		}
	}
	for _, r := range []api.Rect{of(3, -2, 5, 3), of(-2, 3, 3, 5), of(-far, -far, -far+2, -far+2), of(far-2, far-2, far, far)} {
		for _, from := range []api.Buffer{b, {}} {
			if w := Window(from, r); !slices.Equal(w.Pix, New(r).Pix) || w.Box != r {
				t.Error(r, w)
			}
		}
	}
}

// P5.3: what is handed in without a pointer stays, its spare room too, and whatever is done to an answer isn't seen there.
func TestHandedInStays(t *testing.T) {
	places(3, func(c *rand.Rand, x, y int) {
		b, whole := ringed(filled(c, box(c, x, y)))
		kept, box := slices.Clone(whole), b.Box
		for _, r := range []api.Rect{box, of(edge(box.X0-1), box.Y0, box.X1, edge(box.Y1+1)), {}} {
			w := Window(b, r)
			w.Pix = append(w.Pix, api.Px{})[:cap(w.Pix)]
			for i := range w.Pix {
				w.Pix[i] = api.Px{6, 6, 6, 6}
			}
		}
		Right(b)
		At(b, x, y)
		if !slices.Equal(whole, kept) || b.Box != box {
			t.Fatal(b)
		}
	})
}

// P5.3: an answer stays as it was, whatever is done later to what was handed in, and no two answers share memory.
func TestAnswersStay(t *testing.T) {
	places(3, func(c *rand.Rand, x, y int) {
		b := filled(c, box(c, x, y))
		w, again := Window(b, b.Box), Window(b, b.Box)
		kept := slices.Clone(w.Pix)
		Fill(&b, b.Box, api.Px{6, 6, 6, 6})
		Fill(&again, b.Box, api.Px{5, 5, 5, 5})
		if !slices.Equal(w.Pix, kept) {
			t.Fatal(w, kept)
		}
		n, other := New(b.Box), New(b.Box)
		Fill(&n, n.Box, api.Px{6, 6, 6, 6})
		if !slices.Equal(other.Pix, New(b.Box).Pix) {
			t.Fatal(other)
		}
	})
}

// P5.3: what was copied isn't shared with what it came from.
func TestCopiedStays(t *testing.T) {
	b, from := New(of(0, 0, 4, 4)), filled(chance(), of(0, 0, 4, 4))
	Copy(&b, from, b.Box, 0, 0)
	kept := slices.Clone(b.Pix)
	if !slices.Equal(kept, from.Pix) {
		t.Fatal(b, from)
	}
	Fill(&from, from.Box, api.Px{6, 6, 6, 6})
	if !slices.Equal(b.Pix, kept) {
		t.Error(b)
	}
}

// P5.1, P5.2: buffers of 2^24 pixels, as many as the promises speak of: a square, a row, a column.
func TestGreatest(t *testing.T) {
	p, q := api.Px{1, 2, 3, 4}, api.Px{5, 6, 7, 8}
	for _, r := range []api.Rect{of(-2048, -2048, 2048, 2048), of(-far, far-1, -far+1<<24, far), of(far-1, -far, far, -far+1<<24)} {
		b := New(r)
		if !Right(b) || len(b.Pix) != 1<<24 {
			t.Fatal(r, len(b.Pix))
		}
		Fill(&b, r, p)
		Put(&b, r.X1-1, r.Y1-1, q)
		if b.Pix[0] != p || b.Pix[1<<23] != p || b.Pix[1<<24-2] != p || b.Pix[1<<24-1] != q || At(b, r.X1-1, r.Y1-1) != q {
			t.Error(r, "filled")
		}
		if w := Window(b, r); !slices.Equal(w.Pix, b.Pix) {
			t.Error(r, "window")
		}
		Copy(&b, api.Buffer{}, r, 0, 0)
		if !slices.Equal(b.Pix, New(r).Pix) {
			t.Error(r, "cleared")
		}
	}
}

// The chapter's example.
func TestExample(t *testing.T) {
	p := api.Px{1, 2, 3, 4}
	b := New(of(1, 1, 3, 3))
	Put(&b, 2, 1, p)
	if At(b, 2, 1) != p || !slices.Equal(b.Pix, []api.Px{{}, p, {}, {}}) {
		t.Error(b)
	}
}

// wrongs are buffers that aren't right.
func wrongs() []api.Buffer {
	return []api.Buffer{
		{Box: of(0, 0, 2, 2)},
		{Box: of(0, 0, 2, 2), Pix: make([]api.Px, 3)},
		{Box: of(0, 0, 2, 2), Pix: make([]api.Px, 5)},
		{Box: of(0, 0, 0, 2), Pix: make([]api.Px, 5)},
		{Box: of(2, 2, 0, 0), Pix: make([]api.Px, 4)},
		{Pix: make([]api.Px, 1)},
		{Box: of(-far, -far, far, far), Pix: make([]api.Px, 4)},
		{Box: of(far, far, far+2, far+2), Pix: make([]api.Px, 4)},
		{Box: of(math.MinInt, math.MinInt, math.MaxInt, math.MaxInt), Pix: make([]api.Px, 4)},
		{Box: of(math.MinInt, 0, math.MaxInt, 1), Pix: make([]api.Px, 4)},
	}
}

// P1 of the whole: no call panics, and all end, at whatever they are given.
func TestWrongInputsEnd(t *testing.T) {
	c := chance()
	numbers := append([]int{-far, -1, 0, 1, 2}, outer...)
	number := func() int { return numbers[c.Intn(len(numbers))] }
	for range 20000 {
		for _, b := range append(wrongs(), filled(c, of(-1, -1, 2, 2))) {
			for _, to := range []*api.Buffer{&b, nil} {
				Put(to, number(), number(), api.Px{1})
				Fill(to, of(number(), number(), number(), number()), api.Px{2})
				from := wrongs()[c.Intn(len(wrongs()))]
				Copy(to, from, of(number(), number(), number(), number()), number(), number())
			}
			Right(b)
			At(b, number(), number())
		}
	}
}

// P1 of the whole: boxes beyond the plane, and those that no memory holds, make what is right still.
func TestNewOfWrongBoxes(t *testing.T) {
	for _, r := range []api.Rect{of(-far, -far, far, far), of(math.MinInt, math.MinInt, math.MaxInt, math.MaxInt), of(0, 0, 1<<32, 1<<32), of(0, 0, 1<<40, 1<<24), of(-far, 0, far, 1), of(far-1, 0, far+1, 1), of(math.MaxInt-1, 0, math.MaxInt, 1)} {
		if b := New(r); !Right(b) {
			t.Error(r, b.Box)
		}
		if b := Window(filled(chance(), of(0, 0, 2, 2)), r); !Right(b) {
			t.Error(r, b.Box)
		}
	}
}

// P1 of the whole: shifts beyond Far are as such shifts are, and don't come round.
func TestCopyBeyondFar(t *testing.T) {
	c := chance()
	all := of(-far, -far, far, far)
	left, right := of(-far, -far, -far+2, -far+2), of(far-2, far-2, far, far)
	copies(t, filled(c, right), filled(c, left), all, 2*far-2, 2*far-2)
	copies(t, filled(c, left), filled(c, right), all, -2*far+2, -2*far+2)
	copies(t, filled(c, right), filled(c, left), all, 2*far-1, 2*far-3)
	for _, d := range []int{math.MinInt, math.MinInt + 1, -2 * far, 2 * far, math.MaxInt - 1, math.MaxInt} {
		for _, r := range []api.Rect{left, right, of(-1, -1, 1, 1)} {
			for _, from := range []api.Rect{left, right, of(-1, -1, 1, 1)} {
				b := filled(c, r)
				Copy(&b, filled(c, from), all, d, 0)
				if !slices.Equal(b.Pix, New(r).Pix) {
					t.Fatal(r, from, d, b)
				}
				b = filled(c, r)
				Copy(&b, filled(c, from), all, 0, d)
				if !slices.Equal(b.Pix, New(r).Pix) {
					t.Fatal(r, from, d, b)
				}
			}
		}
	}
}
