package morph

import (
	"math"
	"math/rand"
	"slices"
	"testing"

	"gouache/api"
	"gouache/raster"
	"gouache/rect"
)

const (
	far  = api.Far
	most = api.MaxRadius
)

func of(x0, y0, x1, y1 int) api.Rect { return api.Rect{X0: x0, Y0: y0, X1: x1, Y1: y1} }

// grey answers a pixel all of whose values are n.
func grey(n uint8) api.Px { return api.Px{n, n, n, n} }

// points calls do with each point of a box, row by row, from the left to the right, and its number.
func points(box api.Rect, do func(i, x, y int)) {
	i := 0
	for y := box.Y0; y < box.Y1; y++ {
		for x := box.X0; x < box.X1; x++ {
			do(i, x, y)
			i++
		}
	}
}

// call is one of the package's two, with the chapter's word for it.
type call struct {
	name string
	make func(src api.Buffer, box api.Rect, rx, ry int) api.Buffer
	of   func(a, b uint8) uint8
}

func calls() []call {
	return []call{
		{"Least", Least, func(a, b uint8) uint8 { return min(a, b) }},
		{"Most", Most, func(a, b uint8) uint8 { return max(a, b) }},
	}
}

// word is what the words ask for at x, y: over all pixels of the plane from x - rx to x + rx and y - ry to y + ry.
func (c call) word(src api.Buffer, x, y, rx, ry int) api.Px {
	p := raster.At(src, x, y)
	points(of(x-rx, y-ry, x+rx+1, y+ry+1), func(_, x, y int) {
		for i, v := range raster.At(src, x, y) {
			p[i] = c.of(p[i], v)
		}
	})
	return p
}

// holds holds what the call answers against the words.
func (c call) holds(t *testing.T, src api.Buffer, box api.Rect, rx, ry int) {
	t.Helper()
	got := c.make(src, box, rx, ry)
	if got.Box != box || !raster.Right(got) {
		t.Fatalf("%s of %v at %v by %d, %d: the box is %v, of %d pixels", c.name, src.Box, box, rx, ry, got.Box, len(got.Pix))
	}
	points(box, func(i, x, y int) {
		if want := c.word(src, x, y, rx, ry); got.Pix[i] != want {
			t.Fatalf("%s of %v at %v by %d, %d: %v at %d, %d, want %v", c.name, src, box, rx, ry, got.Pix[i], x, y, want)
		}
	})
}

// both holds both calls against the words.
func both(t *testing.T, src api.Buffer, box api.Rect, rx, ry int) {
	t.Helper()
	for _, c := range calls() {
		c.holds(t, src, box, rx, ry)
	}
}

// pixel answers a right pixel, now and then nothing or all of a value.
func pixel(c *rand.Rand) api.Px {
	switch c.Intn(8) {
	case 0:
		return api.Px{}
	case 1:
		return grey(255)
	}
	alpha := c.Intn(256)
	colour := func() uint8 { return uint8(c.Intn(alpha + 1)) }
	return api.Px{colour(), colour(), colour(), uint8(alpha)}
}

// filled answers a buffer of a box (that isn't turned about); of one in four no pixel is nothing, of one few values are
// in use, so that many are the same.
func filled(c *rand.Rand, box api.Rect) api.Buffer {
	b := api.Buffer{Box: box}
	kind := c.Intn(4)
	points(box, func(_, _, _ int) {
		p := pixel(c)
		switch kind {
		case 0:
			p = api.Px{p[0]/2 + 1, p[1]/2 + 1, p[2]/2 + 1, p[3]/2 + 1}
		case 1:
			p = grey(uint8(c.Intn(3)))
		}
		b.Pix = append(b.Pix, p)
	})
	return b
}

// box answers a box of at most 9 by 9 points by the place x, y.
func box(c *rand.Rand, x, y int) api.Rect {
	x0, y0 := x+c.Intn(12)-6, y+c.Intn(12)-6
	return of(x0, y0, x0+1+c.Intn(9), y0+1+c.Intn(9))
}

func chance() *rand.Rand { return rand.New(rand.NewSource(9)) }

// P9.1: small boxes and radii, that meet in all ways, or don't.
func TestSmall(t *testing.T) {
	c := chance()
	for range 5000 {
		both(t, filled(c, box(c, 0, 0)), box(c, 0, 0), c.Intn(4), c.Intn(4))
	}
}

// P9.1: each pair of radii from 0 on, both boxes in one another.
func TestRadii(t *testing.T) {
	c := chance()
	small, great := of(-1, 2, 3, 5), of(-9, -8, 10, 13)
	for rx := range 12 {
		for ry := range 12 {
			both(t, filled(c, small), great, rx, ry)
			both(t, filled(c, great), small, rx, ry)
			both(t, filled(c, great), great, rx, ry)
		}
	}
}

// P9.1: radii up to the greatest one, of pictures that are just wide enough to be eroded to something, or aren't.
func TestGreatRadii(t *testing.T) {
	c := chance()
	for _, r := range []int{30, 127, most - 1, most} {
		for _, s := range []int{0, 2, most} {
			both(t, filled(c, of(-r-2, -s-1, r+3, s+2)), of(-3, -2, 4, 3), r, s)
			both(t, filled(c, of(-s-1, -r-2, s+2, r+3)), of(-2, -3, 3, 4), s, r)
		}
		both(t, filled(c, of(-r, 0, r, 1)), of(-3, 0, 4, 1), r, 0)
		both(t, filled(c, of(0, -r, 1, r)), of(0, -3, 1, 4), 0, r)
		both(t, filled(c, of(-r, -r, r+1, r+1)), of(-1, -1, 2, 2), r, r)
	}
	// All of a row, or of a column, that comes in, stays and leaves again.
	both(t, filled(c, of(0, 0, 40, 1)), of(-most-2, 0, 42+most, 1), most, 0)
	both(t, filled(c, of(0, 0, 1, 40)), of(0, -most-2, 1, 42+most), 0, most)
}

// P9.1: lines that fill a queue to the last place and go round in it: values that fall (for Least: that rise) drive
// nobody out, those that rise drive out all.
func TestQueues(t *testing.T) {
	n := 4 * room
	for _, r := range []int{1, 100, most - 1, most} {
		for _, value := range []func(i int) uint8{
			func(i int) uint8 { return uint8(255 - i*255/n) },
			func(i int) uint8 { return uint8(i * 255 / n) },
			func(i int) uint8 { return uint8(255 - i/2%256) },
			func(i int) uint8 { return uint8(i / 2) },
			func(i int) uint8 { return uint8(i % 2 * 255) },
			func(i int) uint8 { return 7 },
		} {
			wide, high := raster.New(of(0, 0, n, 1)), raster.New(of(0, 0, 1, n))
			for i := range n {
				p := api.Px{value(i), 255 - value(i), 0, 255}
				wide.Pix[i], high.Pix[i] = p, p
			}
			both(t, wide, of(-1, 0, n+1, 1), r, 0)
			both(t, high, of(0, -1, 1, n+1), 0, r)
		}
	}
}

// P9.1: at the ends that a box may have, and at those of the plane, where only a source may be.
func TestFar(t *testing.T) {
	c := chance()
	for _, x := range []int{-far / 2, -1, far / 2} {
		for _, y := range []int{-far / 2, 0, far / 2} {
			for range 20 {
				at := func(n, by int) int { return max(-far/2, min(n+by, far/2-7)) }
				x0, y0 := at(x, c.Intn(9)-4), at(y, c.Intn(9)-4)
				to := of(x0, y0, x0+1+c.Intn(7), y0+1+c.Intn(7))
				both(t, filled(c, box(c, x, y)), to, c.Intn(3), c.Intn(3))
			}
		}
	}
	for _, b := range []api.Rect{of(-far, -far, -far+2, -far+2), of(far-2, far-2, far, far), of(-far, far-2, -far+2, far)} {
		src := filled(c, b)
		for _, x := range []int{-far / 2, 0, far/2 - 2} {
			both(t, src, of(x, x, x+2, x+2), 3, 3)
		}
	}
}

// P9.1: a box that sees but a piece of a long source.
func TestOfLongLines(t *testing.T) {
	c := chance()
	long, high := filled(c, of(-5000, 0, 5000, 3)), filled(c, of(0, -5000, 3, 5000))
	for _, x := range []int{-5003, -5001, -4999, 0, 4996, 4999, 5001, 5003} {
		both(t, long, of(x, -1, x+3, 4), 2, 1)
		both(t, high, of(-1, x, 4, x+3), 1, 2)
	}
}

// P9.1: the chapter's example, and others as numbers.
func TestExamples(t *testing.T) {
	calls := calls()
	least, most := calls[0], calls[1]
	one := api.Buffer{Box: of(0, 0, 1, 1), Pix: []api.Px{grey(9)}}
	row := api.Buffer{Box: of(0, 0, 4, 1), Pix: []api.Px{{1, 9, 0, 9}, {2, 2, 2, 8}, {3, 1, 5, 7}, {4, 4, 4, 4}}}
	column := api.Buffer{Box: of(0, 0, 1, 4), Pix: row.Pix}
	eroded := []api.Px{{}, {1, 1, 0, 7}, {2, 1, 2, 4}, {}}
	dilated := []api.Px{{2, 9, 2, 9}, {3, 9, 5, 9}, {4, 4, 5, 8}, {4, 4, 5, 7}}
	for _, x := range []struct {
		call   call
		src    api.Buffer
		box    api.Rect
		rx, ry int
		want   []api.Px
	}{
		{most, one, of(-2, 0, 3, 1), 1, 0, []api.Px{{}, grey(9), grey(9), grey(9), {}}},
		{most, one, of(0, -2, 1, 3), 1, 0, []api.Px{{}, {}, grey(9), {}, {}}},
		{most, one, of(0, -2, 1, 3), 0, 1, []api.Px{{}, grey(9), grey(9), grey(9), {}}},
		{most, one, of(-1, -1, 2, 2), 1, 1, slices.Repeat([]api.Px{grey(9)}, 9)},
		{least, one, of(-2, 0, 3, 1), 1, 0, make([]api.Px, 5)},
		{least, one, of(-2, 0, 3, 1), 0, 1, make([]api.Px, 5)},
		{least, one, of(-2, 0, 3, 1), 0, 0, []api.Px{{}, {}, grey(9), {}, {}}},
		{least, row, row.Box, 1, 0, eroded},
		{least, column, column.Box, 0, 1, eroded},
		{most, row, row.Box, 1, 0, dilated},
		{most, column, column.Box, 0, 1, dilated},
		{most, row, of(0, -1, 2, 1), 0, 1, []api.Px{row.Pix[0], row.Pix[1], row.Pix[0], row.Pix[1]}},
	} {
		if got := x.call.make(x.src, x.box, x.rx, x.ry); got.Box != x.box || !slices.Equal(got.Pix, x.want) {
			t.Errorf("%s of %v at %v by %d, %d: %v, want %v", x.call.name, x.src, x.box, x.rx, x.ry, got, x.want)
		}
	}
}

// P9.1: of all values, the one that is but seen at a corner counts; one farther doesn't.
func TestCorners(t *testing.T) {
	for _, r := range [][2]int{{0, 0}, {1, 2}, {5, 3}, {most, 1}, {2, most}} {
		rx, ry := r[0], r[1]
		for _, at := range [][2]int{{-rx, -ry}, {rx, -ry}, {-rx, ry}, {rx, ry}, {-rx - 1, 0}, {rx + 1, 0}, {0, -ry - 1}, {0, ry + 1}} {
			all := of(-rx-2, -ry-2, rx+3, ry+3)
			light, dark := raster.New(all), raster.New(all)
			raster.Fill(&light, all, grey(200))
			raster.Put(&light, at[0], at[1], api.Px{100, 101, 102, 103})
			raster.Put(&dark, at[0], at[1], api.Px{100, 101, 102, 103})
			both(t, light, of(0, 0, 1, 1), rx, ry)
			both(t, dark, of(0, 0, 1, 1), rx, ry)
		}
	}
}

// P9.1: each of the four values has a queue of its own.
func TestValueByValue(t *testing.T) {
	c := chance()
	b := of(-3, -3, 4, 4)
	for _, call := range calls() {
		for i := range 4 {
			src, all := filled(c, b), filled(c, b)
			for k := range src.Pix {
				all.Pix[k][i] = src.Pix[k][i]
			}
			one, other := call.make(src, b, 2, 1), call.make(all, b, 2, 1)
			for k := range one.Pix {
				if one.Pix[k][i] != other.Pix[k][i] {
					t.Fatalf("%s: value %d hangs on others", call.name, i)
				}
			}
		}
	}
}

// P9.1: empty boxes, however they are told, and of empty buffers.
func TestOfEmpty(t *testing.T) {
	src := filled(chance(), of(0, 0, 3, 3))
	for _, call := range calls() {
		for _, b := range []api.Rect{{}, of(1, 1, 1, 2), of(1, 1, 2, 1), of(3, 3, 1, 1), of(0, 3, 3, 0), of(3, 0, 0, 3), of(far/2, 0, far/2, 3), of(far/2, far/2, -far/2, -far/2)} {
			for _, r := range []int{0, 1, most} {
				if got := call.make(src, b, r, r); got.Box != (api.Rect{}) || len(got.Pix) != 0 {
					t.Errorf("%s at %v by %d: %v", call.name, b, r, got)
				}
			}
		}
	}
	for _, b := range []api.Rect{of(0, 0, 1, 1), of(-2, -2, 3, 3), of(-far/2, -far/2, -far/2+2, -far/2+1)} {
		both(t, api.Buffer{}, b, 2, 3)
		both(t, api.Buffer{Pix: []api.Px{}}, b, 0, 0)
	}
}

// P9.1: boxes of as many points as there may be with the radii, square, wide and high.
func TestGreat(t *testing.T) {
	for _, x := range []struct{ w, h, rx, ry int }{
		{4096 - 2*most, 4096 - 2*most, most, most},
		{1<<24 - 2, 1, 1, 0},
		{1, 1<<24 - 2, 0, 1},
		{1<<15 - 2*most, 1, most, most},
		{4096, 4096, 0, 0},
	} {
		whole := of(-x.w/2, -x.h/2, x.w-x.w/2, x.h-x.h/2)
		src := raster.New(whole)
		raster.Fill(&src, whole, api.Px{10, 200, 3, 250})
		raster.Put(&src, whole.X0, whole.Y0, api.Px{255, 0, 255, 255})
		raster.Put(&src, 0, 0, api.Px{9, 201, 2, 251})
		for _, call := range calls() {
			got := call.make(src, whole, x.rx, x.ry)
			if got.Box != whole || !raster.Right(got) {
				t.Fatalf("%s: %v: %v", call.name, x, got.Box)
			}
			for _, at := range [][2]int{{whole.X0, whole.Y0}, {whole.X1 - 1, whole.Y1 - 1}, {whole.X0 + x.rx, whole.Y0 + x.ry}, {whole.X0 + x.w/3, whole.Y0}, {whole.X0, whole.Y1 - 1}, {0, 0}, {x.rx, -x.ry}} {
				if !rect.Has(whole, at[0], at[1]) {
					continue
				}
				if p, want := raster.At(got, at[0], at[1]), call.word(src, at[0], at[1], x.rx, x.ry); p != want {
					t.Errorf("%s: %v: %v at %v, want %v", call.name, x, p, at, want)
				}
			}
		}
	}
}

// P9.2: what right pixels make is right.
func TestMadeIsRight(t *testing.T) {
	c := chance()
	for range 3000 {
		src, b, rx, ry := filled(c, box(c, 0, 0)), box(c, 0, 0), c.Intn(4), c.Intn(4)
		for i, p := range src.Pix {
			src.Pix[i][3] = max(p[0], p[1], p[2], p[3])
		}
		for _, call := range calls() {
			for _, p := range call.make(src, b, rx, ry).Pix {
				if p[0] > p[3] || p[1] > p[3] || p[2] > p[3] {
					t.Fatalf("%s: %v isn't right", call.name, p)
				}
			}
		}
	}
}

// P9.2: by 0 and 0 nothing changes, of pixels that aren't right too.
func TestByNothing(t *testing.T) {
	c := chance()
	for range 3000 {
		src, b := filled(c, box(c, 0, 0)), box(c, 0, 0)
		src.Pix[0] = api.Px{255, 1, 0, 0}
		for _, call := range calls() {
			got, want := call.make(src, b, 0, 0), raster.Window(src, b)
			if got.Box != want.Box || !slices.Equal(got.Pix, want.Pix) {
				t.Fatalf("%s of %v at %v: %v", call.name, src, b, got)
			}
		}
	}
}

// lesser says whether some value of a is less than that of b.
func lesser(a, b []api.Px) bool {
	for i := range a {
		for k := range a[i] {
			if a[i][k] < b[i][k] {
				return true
			}
		}
	}
	return false
}

// P9.2: eroding what is dilated by the same is no less than it was; and the other way round, no more.
func TestThereAndBack(t *testing.T) {
	c := chance()
	for n := range 2000 {
		src, rx, ry := filled(c, box(c, 0, 0)), c.Intn(5), c.Intn(5)
		if n < 4 {
			rx, ry = most*(n%2), most*(n/2)
		}
		round := rect.Grow(src.Box, rx, ry, rx, ry)
		if back := Least(Most(src, round, rx, ry), src.Box, rx, ry); lesser(back.Pix, src.Pix) {
			t.Fatalf("%v by %d, %d: %v", src, rx, ry, back)
		}
		if back := Most(Least(src, round, rx, ry), src.Box, rx, ry); lesser(src.Pix, back.Pix) {
			t.Fatalf("%v by %d, %d, the other way round: %v", src, rx, ry, back)
		}
	}
}

// P9.3: what is handed in stays, what is ahead of it in memory and its spare room too.
func TestStays(t *testing.T) {
	c := chance()
	for n := range 500 {
		call := calls()[n%2]
		src := filled(c, box(c, 0, 0))
		room := slices.Concat([]api.Px{grey(7), grey(8)}, src.Pix, []api.Px{grey(9), grey(6)})
		was := slices.Clone(room)
		handed := api.Buffer{Box: src.Box, Pix: room[2 : 2+len(src.Pix)]}
		got := call.make(handed, box(c, 0, 0), c.Intn(4), c.Intn(4))
		if !slices.Equal(room, was) || handed.Box != src.Box {
			t.Fatalf("%s: %v is changed to %v", call.name, was, room)
		}
		for i := range got.Pix[:cap(got.Pix)] {
			got.Pix[:cap(got.Pix)][i] = grey(77)
		}
		if !slices.Equal(room, was) {
			t.Fatalf("%s: what is answered shares memory with what is handed in", call.name)
		}
	}
}

// P9.3: what is answered is new memory, by 0 and 0 too, and what is handed in may change behind it.
func TestNewMemory(t *testing.T) {
	b := of(0, 0, 4, 3)
	for _, call := range calls() {
		for _, r := range [][2]int{{0, 0}, {1, 0}, {0, 1}, {1, 1}} {
			src := raster.New(b)
			raster.Fill(&src, b, grey(44))
			one := call.make(src, b, r[0], r[1])
			want := slices.Clone(one.Pix)
			other := call.make(src, b, r[0], r[1])
			clear(other.Pix)
			clear(src.Pix)
			if !slices.Equal(one.Pix, want) {
				t.Errorf("%s by %v: memory is shared", call.name, r)
			}
		}
	}
}

// wrongs answers buffers that aren't right.
func wrongs() []api.Buffer {
	pix := slices.Repeat([]api.Px{grey(5)}, 4)
	return []api.Buffer{
		{Pix: pix},
		{Box: of(0, 0, 2, 2)},
		{Box: of(0, 0, 2, 2), Pix: pix[:3]},
		{Box: of(0, 0, 1, 3), Pix: pix},
		{Box: of(2, 2, 0, 0), Pix: pix},
		{Box: of(far, far, far+2, far+2), Pix: pix},
		{Box: of(math.MinInt, math.MinInt, math.MaxInt, math.MaxInt), Pix: pix},
	}
}

// P1 of the whole: no call panics, and all end; of what is wrong, nothing is made.
func TestWrong(t *testing.T) {
	b := of(-1, -1, 3, 3)
	nothing := func(src api.Buffer, rx, ry int) {
		t.Helper()
		for _, call := range calls() {
			if got := call.make(src, b, rx, ry); got.Box != b || !slices.Equal(got.Pix, raster.New(b).Pix) {
				t.Error(call.name, src, rx, ry, got)
			}
		}
	}
	for _, src := range wrongs() {
		nothing(src, 0, 0)
		nothing(src, 1, 2)
		nothing(src, most, most)
	}
	src := filled(chance(), b)
	for _, r := range []int{-1, most + 1, -most, 1 << 20, 1 << 32, math.MinInt, math.MaxInt} {
		nothing(src, r, 0)
		nothing(src, 0, r)
		nothing(src, r, r)
	}
}

// P1 of the whole: of boxes beyond the plane, and of those that no memory holds, the answer is right still.
func TestWrongBoxes(t *testing.T) {
	c := chance()
	for _, call := range calls() {
		for _, b := range []api.Rect{of(-far, -far, far, far), of(math.MinInt, math.MinInt, math.MaxInt, math.MaxInt), of(0, 0, 1<<40, 1<<24), of(-far, 0, far, 1), of(far-1, 0, far+1, 1), of(math.MaxInt-1, 0, math.MaxInt, 1), of(math.MinInt, 0, math.MinInt+1, 1)} {
			for _, at := range []api.Rect{of(0, 0, 2, 2), of(far-2, 0, far, 2), of(-far, -far, -far+2, -far+2)} {
				for _, r := range []int{0, 1, most, -1} {
					if got := call.make(filled(c, at), b, r, r); !raster.Right(got) {
						t.Error(call.name, b, at, r, got.Box)
					}
				}
			}
		}
	}
	// At the ends of the plane nothing comes in from beyond.
	for _, b := range []api.Rect{of(far-5, far-5, far, far), of(-far, -far, -far+5, -far+5)} {
		both(t, filled(c, b), b, 2, 1)
	}
}
