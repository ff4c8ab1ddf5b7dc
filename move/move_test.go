package move

import (
	"math"
	"math/rand"
	"slices"
	"testing"

	"gouache/api"
	"gouache/blur"
	"gouache/mix"
	"gouache/raster"
	"gouache/rect"
	"gouache/tone"
)

const (
	far  = api.Far
	most = api.MaxRadius
	step = 1 << 24 // the farthest that something is offset
)

func of(x0, y0, x1, y1 int) api.Rect { return api.Rect{X0: x0, Y0: y0, X1: x1, Y1: y1} }

// grey answers a pixel all of whose values are n.
func grey(n uint8) api.Px { return api.Px{n, n, n, n} }

// points calls do with each point of a box, row by row, from the left to the right, and its number.
func points(box api.Rect, do func(i, x, y int)) {
	i := 0
	for y := box.Y0; y < box.Y1; y++ {
		for x := box.X0; x < box.X1; x++ {
			do(i, x, y)
			i++
		}
	}
}

// call is a call of the package, with all that it is handed but a box, and what the chapter's words ask for at a point.
type call struct {
	name string
	make func(box api.Rect) api.Buffer
	word func(x, y int) api.Px
}

// holds holds what the call answers against the words, in all of the box.
func (c call) holds(t *testing.T, box api.Rect) {
	t.Helper()
	got := c.make(box)
	if got.Box != box || !raster.Right(got) {
		t.Fatalf("%s at %v: the box is %v, of %d pixels", c.name, box, got.Box, len(got.Pix))
	}
	points(box, func(i, x, y int) {
		if want := c.word(x, y); got.Pix[i] != want {
			t.Fatalf("%s at %v: %v at %d, %d, want %v", c.name, box, got.Pix[i], x, y, want)
		}
	})
}

// sees holds what the call answers against the words at some points of the box.
func (c call) sees(t *testing.T, box api.Rect, at ...[2]int) {
	t.Helper()
	got := c.make(box)
	if got.Box != box || !raster.Right(got) {
		t.Fatalf("%s at %v: the box is %v, of %d pixels", c.name, box, got.Box, len(got.Pix))
	}
	for _, a := range at {
		if !rect.Has(box, a[0], a[1]) {
			t.Fatalf("%s at %v: no point of it: %v", c.name, box, a)
		}
		if p, want := raster.At(got, a[0], a[1]), c.word(a[0], a[1]); p != want {
			t.Errorf("%s at %v: %v at %v, want %v", c.name, box, p, a, want)
		}
	}
}

func offset(src api.Buffer, dx, dy int) call {
	return call{"Offset",
		func(box api.Rect) api.Buffer { return Offset(src, box, dx, dy) },
		func(x, y int) api.Px { return raster.At(src, x-dx, y-dy) },
	}
}

// inTile answers the one place from start to end that is whole sizes away from n.
func inTile(n, start, end int) int {
	size := end - start
	n -= (n - start) / size * size
	if n < start {
		n += size
	}
	if n < start || n >= end {
		panic("not in the tile")
	}
	return n
}

func tile(src api.Buffer, r api.Rect) call {
	return call{"Tile",
		func(box api.Rect) api.Buffer { return Tile(src, box, r) },
		func(x, y int) api.Px { return raster.At(src, inTile(x, r.X0, r.X1), inTile(y, r.Y0, r.Y1)) },
	}
}

func clip(src api.Buffer, r api.Rect) call {
	return call{"Clip",
		func(box api.Rect) api.Buffer { return Clip(src, box, r) },
		func(x, y int) api.Px {
			if !rect.Has(r, x, y) {
				return api.Px{}
			}
			return raster.At(src, x, y)
		},
	}
}

func flood(p api.Px, r api.Rect) call {
	return call{"Flood",
		func(box api.Rect) api.Buffer { return Flood(box, p, r) },
		func(x, y int) api.Px {
			if !rect.Has(r, x, y) {
				return api.Px{}
			}
			return p
		},
	}
}

func shadow(src api.Buffer, dx, dy, rx, ry int, p api.Px) call {
	return call{"Shadow",
		func(box api.Rect) api.Buffer { return Shadow(src, box, dx, dy, rx, ry, p) },
		func(x, y int) api.Px {
			soft := blur.Box(src, of(x-dx, y-dy, x-dx+1, y-dy+1), rx, ry).Pix[0]
			return mix.Composite(api.Over, raster.At(src, x, y), tone.Scale(p, soft[3]))
		},
	}
}

func merge(l ...api.Buffer) call {
	return call{"Merge",
		func(box api.Rect) api.Buffer { return Merge(l, box) },
		func(x, y int) api.Px {
			if len(l) == 0 {
				return api.Px{}
			}
			p := raster.At(l[0], x, y)
			for _, b := range l[1:] {
				p = mix.Composite(api.Over, raster.At(b, x, y), p)
			}
			return p
		},
	}
}

// pixel answers a right pixel, now and then nothing or all of a value.
func pixel(c *rand.Rand) api.Px {
	switch c.Intn(8) {
	case 0:
		return api.Px{}
	case 1:
		return grey(255)
	}
	alpha := c.Intn(256)
	colour := func() uint8 { return uint8(c.Intn(alpha + 1)) }
	return api.Px{colour(), colour(), colour(), uint8(alpha)}
}

// filled answers a buffer of a box (that isn't turned about).
func filled(c *rand.Rand, box api.Rect) api.Buffer {
	b := api.Buffer{Box: box}
	points(box, func(_, _, _ int) { b.Pix = append(b.Pix, pixel(c)) })
	return b
}

// box answers a box of at most 9 by 9 points by the place x, y.
func box(c *rand.Rand, x, y int) api.Rect {
	x0, y0 := x+c.Intn(12)-6, y+c.Intn(12)-6
	return of(x0, y0, x0+1+c.Intn(9), y0+1+c.Intn(9))
}

// some answers a number from -n to n.
func some(c *rand.Rand, n int) int { return c.Intn(2*n+1) - n }

// buffers answers at most n buffers by the place 0, 0, one in five of them empty.
func buffers(c *rand.Rand, n int) []api.Buffer {
	l := make([]api.Buffer, c.Intn(n+1))
	for i := range l {
		if c.Intn(5) != 0 {
			l[i] = filled(c, box(c, 0, 0))
		}
	}
	return l
}

// all answers each of the calls, of a small picture by the place x, y.
func all(c *rand.Rand, x, y int) []call {
	src := filled(c, box(c, x, y))
	l := buffers(c, 4)
	for range c.Intn(4) {
		l = append(l, filled(c, box(c, x, y)))
	}
	return []call{
		offset(src, some(c, 9), some(c, 9)),
		tile(src, box(c, x, y)),
		clip(src, box(c, x, y)),
		flood(pixel(c), box(c, x, y)),
		shadow(src, some(c, 9), some(c, 9), c.Intn(4), c.Intn(4), pixel(c)),
		merge(l...),
	}
}

func chance() *rand.Rand { return rand.New(rand.NewSource(10)) }

// P10.1: small boxes, that meet in all ways, or don't.
func TestSmall(t *testing.T) {
	c := chance()
	for range 3000 {
		for _, call := range all(c, 0, 0) {
			call.holds(t, box(c, 0, 0))
		}
	}
}

// P10.1: the chapter's examples, and others as numbers.
func TestExamples(t *testing.T) {
	p, q, n := api.Px{100, 0, 0, 200}, api.Px{0, 0, 0, 255}, api.Px{}
	two := api.Buffer{Box: of(0, 0, 2, 1), Pix: []api.Px{p, q}}
	one := api.Buffer{Box: of(0, 0, 1, 1), Pix: []api.Px{{60, 60, 60, 90}}}
	red := api.Px{255, 0, 0, 255}
	nine := raster.New(of(0, 0, 3, 3))
	for i := range nine.Pix {
		nine.Pix[i] = grey(uint8(i + 1))
	}
	g := grey
	for _, x := range []struct {
		name string
		got  api.Buffer
		box  api.Rect
		want []api.Px
	}{
		{"tile", Tile(two, of(-1, 0, 3, 1), of(0, 0, 2, 1)), of(-1, 0, 3, 1), []api.Px{q, p, q, p}},
		{"offset", Offset(two, of(0, 0, 3, 1), 1, 0), of(0, 0, 3, 1), []api.Px{n, p, q}},
		{"offset up", Offset(two, of(0, -2, 2, 0), 0, -1), of(0, -2, 2, 0), []api.Px{n, n, p, q}},
		{"tile with a gap", Tile(two, of(-3, -1, 3, 1), of(0, 0, 3, 1)), of(-3, -1, 3, 1), []api.Px{p, q, n, p, q, n, p, q, n, p, q, n}},
		{"tile of the middle", Tile(nine, of(0, 0, 2, 2), of(1, 1, 2, 2)), of(0, 0, 2, 2), []api.Px{g(5), g(5), g(5), g(5)}},
		{"tile of a corner", Tile(nine, of(0, 0, 3, 3), of(1, 1, 3, 3)), of(0, 0, 3, 3), []api.Px{g(9), g(8), g(9), g(6), g(5), g(6), g(9), g(8), g(9)}},
		{"tile of a row", Tile(nine, of(-1, 5, 2, 7), of(0, 2, 3, 3)), of(-1, 5, 2, 7), []api.Px{g(9), g(7), g(8), g(9), g(7), g(8)}},
		{"tile of a column", Tile(nine, of(5, -1, 7, 2), of(2, 0, 3, 3)), of(5, -1, 7, 2), []api.Px{g(9), g(9), g(3), g(3), g(6), g(6)}},
		{"tile elsewhere", Tile(nine, of(0, 0, 2, 1), of(3, 0, 6, 3)), of(0, 0, 2, 1), []api.Px{n, n}},
		{"clip", Clip(nine, of(-1, 0, 3, 2), of(0, 1, 2, 9)), of(-1, 0, 3, 2), []api.Px{n, n, n, n, n, g(4), g(5), n}},
		{"flood", Flood(of(-1, 0, 2, 2), p, of(0, -5, 9, 1)), of(-1, 0, 2, 2), []api.Px{n, p, p, n, n, n}},
		{"shadow", Shadow(one, of(0, 0, 4, 1), 2, 0, 1, 0, red), of(0, 0, 4, 1), []api.Px{{60, 60, 60, 90}, {30, 0, 0, 30}, {30, 0, 0, 30}, {30, 0, 0, 30}}},
		{"shadow below", Shadow(one, of(0, 0, 1, 3), 0, 2, 0, 1, red), of(0, 0, 1, 3), []api.Px{{60, 60, 60, 90}, {30, 0, 0, 30}, {30, 0, 0, 30}}},
		{"shadow behind", Shadow(one, of(0, 0, 1, 1), 0, 0, 0, 0, red), of(0, 0, 1, 1), []api.Px{{118, 60, 60, 148}}},
		{"shadow without the picture", Shadow(one, of(-6, -5, -5, -4), -6, -5, 0, 0, red), of(-6, -5, -5, -4), []api.Px{{90, 0, 0, 90}}},
		{"shadow of nothing", Shadow(api.Buffer{}, of(0, 0, 1, 1), 0, 0, 1, 1, red), of(0, 0, 1, 1), []api.Px{n}},
		{"shadow that is nothing", Shadow(one, of(0, 0, 2, 1), 1, 0, 0, 0, n), of(0, 0, 2, 1), []api.Px{{60, 60, 60, 90}, n}},
		{"merge", Merge([]api.Buffer{two, {Box: of(1, 0, 3, 1), Pix: []api.Px{p, q}}}, of(-1, 0, 4, 1)), of(-1, 0, 4, 1), []api.Px{n, p, {100, 0, 0, 255}, q, n}},
		{"merge the other way round", Merge([]api.Buffer{{Box: of(1, 0, 3, 1), Pix: []api.Px{p, q}}, two}, of(-1, 0, 4, 1)), of(-1, 0, 4, 1), []api.Px{n, p, q, q, n}},
		{"merge of one", Merge([]api.Buffer{two}, of(1, 0, 3, 1)), of(1, 0, 3, 1), []api.Px{q, n}},
		{"merge of none", Merge(nil, of(0, 0, 2, 1)), of(0, 0, 2, 1), []api.Px{n, n}},
		{"merge of no more", Merge([]api.Buffer{}, of(0, 0, 2, 1)), of(0, 0, 2, 1), []api.Px{n, n}},
	} {
		if x.got.Box != x.box || !slices.Equal(x.got.Pix, x.want) {
			t.Errorf("%s: %v, want %v", x.name, x.got, x.want)
		}
	}
}

// P10.1: each size of a tile, at each place against a box, of a picture that has all of it, or a piece, or more.
func TestTiles(t *testing.T) {
	c := chance()
	for w := 1; w <= 5; w++ {
		for h := 1; h <= 4; h++ {
			for x := -w - 3; x <= w+3; x++ {
				y := some(c, h+3)
				r := of(x, y, x+w, y+h)
				for _, b := range []api.Rect{r, of(x+1, y, x+w+3, y+2*h), rect.Grow(r, 2, 1, 1, 2), box(c, x, y)} {
					tile(filled(c, b), r).holds(t, of(0, 0, 1+c.Intn(20), 1+c.Intn(17)))
				}
			}
		}
	}
}

// P10.1: tiles that are greater by far than what there is of the picture and than the box, up to the greatest.
func TestGreatTiles(t *testing.T) {
	c := chance()
	for _, r := range []api.Rect{
		of(-far/2, -far/2, far/2, far/2),
		of(-far/2+1, -far/2, far/2, far/2-1),
		of(-far/2, -far/2+1, far/2-1, far/2),
		of(0, 0, far/2, far/2),
		of(-far/2, -far/2, 0, 0),
		of(-far/2, -far/2, -far/2+2, -far/2+1),
		of(far/2-3, far/2-2, far/2, far/2),
		of(-1, -far/2, 1, far/2),
		of(-far/2, -1, far/2, 1),
		of(-step, -step, step, step),
	} {
		for _, x := range []int{r.X0, r.X0 + 3, r.X1, 0, -far / 2, far / 2} {
			for _, y := range []int{r.Y0, r.Y1 - 1, 0, -far / 2, far / 2} {
				src := filled(c, box(c, x, y))
				for _, at := range [][2]int{{x, y}, {0, 0}, {-far / 2, -far / 2}, {far / 2, far / 2}, {-far / 2, far / 2}} {
					tile(src, r).holds(t, inHalf(c, at[0], at[1]))
				}
			}
		}
	}
}

// inHalf answers a small box by the place x, y, as far from the plane's ends as boxes are promised to be.
func inHalf(c *rand.Rand, x, y int) api.Rect {
	at := func(n int) int { return max(-far/2, min(n+some(c, 5), far/2-7)) }
	x0, y0 := at(x), at(y)
	return of(x0, y0, x0+1+c.Intn(7), y0+1+c.Intn(7))
}

// P10.1: each call at the ends that a box may have.
func TestFar(t *testing.T) {
	c := chance()
	for _, x := range []int{-far / 2, -1, far/2 - 1} {
		for _, y := range []int{-far / 2, 0, far/2 - 1} {
			for range 20 {
				src := filled(c, box(c, x, y))
				dx, dy := some(c, 9), some(c, 9)
				offset(src, dx, dy).holds(t, inHalf(c, x+dx, y+dy))
				tile(src, inHalf(c, x, y)).holds(t, inHalf(c, x, y))
				clip(src, box(c, x, y)).holds(t, inHalf(c, x, y))
				flood(pixel(c), box(c, x, y)).holds(t, inHalf(c, x, y))
				shadow(src, dx, dy, c.Intn(4), c.Intn(4), pixel(c)).holds(t, inHalf(c, x+dx, y+dy))
				merge(src, filled(c, box(c, x, y)), filled(c, box(c, x, y))).holds(t, inHalf(c, x, y))
			}
		}
	}
}

// P10.1: the farthest that something is offset, there and back, at the ends of where boxes are too.
func TestFarOffsets(t *testing.T) {
	c := chance()
	for _, x := range []int{-far / 2, -far/2 + step, 0, far/2 - step, far / 2} {
		for _, dx := range []int{-step, 0, step} {
			for _, dy := range []int{-step, step} {
				src := filled(c, box(c, x, -x))
				offset(src, dx, dy).holds(t, inHalf(c, x+dx, -x+dy))
				shadow(src, dx, dy, 2, 1, pixel(c)).holds(t, inHalf(c, x+dx, -x+dy))
				shadow(src, dx, dy, 2, 1, pixel(c)).holds(t, inHalf(c, x, -x))
			}
		}
	}
}

// P10.1: pictures at the ends of the plane, where no box may be: nothing of them comes in, and nothing is wrong.
func TestAtTheEnds(t *testing.T) {
	c := chance()
	for _, b := range []api.Rect{of(-far, -far, -far+2, -far+2), of(far-2, far-2, far, far), of(-far, far-2, -far+2, far), of(far-2, -far, far, -far+1), of(-far, 0, -far+2, 1), of(far-2, 0, far, 1)} {
		src := filled(c, b)
		for _, x := range []int{-far / 2, 0, far/2 - 2} {
			for _, dx := range []int{-step, -1, 0, 1, step} {
				to := of(x, x, x+2, x+2)
				offset(src, dx, dx).holds(t, to)
				shadow(src, dx, dx, 2, 2, grey(255)).holds(t, to)
				tile(src, of(-far/2, -far/2, far/2, far/2)).holds(t, to)
				clip(src, rect.All()).holds(t, to)
				merge(src, src).holds(t, to)
			}
		}
	}
}

// P10.1: rectangles to clip by and to flood, however great, and however they are empty.
func TestRectangles(t *testing.T) {
	c := chance()
	b := of(-2, -3, 4, 3)
	src := filled(c, b)
	for _, r := range []api.Rect{rect.All(), {}, of(1, 1, 1, 2), of(2, 2, 0, 0), of(0, 2, 2, 0), of(-far, 0, 0, far), of(0, -far, far, 0), of(far, far, -far, -far), of(0, 0, 1, 1), b, of(-far, -far, -far+1, -far+1), of(math.MinInt, math.MinInt, math.MaxInt, math.MaxInt), of(math.MaxInt, math.MaxInt, math.MinInt, math.MinInt)} {
		clip(src, r).holds(t, rect.Grow(b, 1, 1, 1, 1))
		flood(api.Px{1, 2, 3, 200}, r).holds(t, b)
	}
}

// P10.1: shadows by radii up to the greatest one.
func TestGreatRadii(t *testing.T) {
	c := chance()
	for _, r := range []int{0, 1, 30, most - 1, most} {
		for _, s := range []int{0, 2, most} {
			for _, d := range []int{-most - 1, 0, 3, most} {
				src := raster.New(of(-20, -3, 21, 3))
				raster.Fill(&src, src.Box, grey(200))
				raster.Put(&src, 0, 0, grey(7))
				shadow(src, d, -d, r, s, pixel(c)).holds(t, of(d-2, -d-2, d+3, -d+3))
				shadow(src, d, d, s, r, pixel(c)).holds(t, of(d+s-2, d-r-1, d+s+23, d-r+3))
			}
		}
	}
}

// P10.1: a picture that a box sees but a piece of, while the shadow comes of what it doesn't see.
func TestShadowFromOutside(t *testing.T) {
	c := chance()
	long, high := filled(c, of(-3000, 0, 3000, 3)), filled(c, of(0, -3000, 3, 3000))
	for _, x := range []int{-3004, -3001, -2999, 0, 2996, 2999, 3001, 3003} {
		for _, d := range []int{-100, -1, 0, 2, 5900} {
			shadow(long, d, 1, 2, 1, grey(255)).holds(t, of(x, -1, x+4, 5))
			shadow(high, 1, d, 1, 2, grey(255)).holds(t, of(-1, x, 5, x+4))
		}
	}
}

// P10.1: what is merged hangs on the order, of many too.
func TestMany(t *testing.T) {
	c := chance()
	for range 300 {
		merge(buffers(c, 40)...).holds(t, box(c, 0, 0))
	}
	b := of(0, 0, 1, 1)
	l := make([]api.Buffer, 5000)
	for i := range l {
		l[i] = api.Buffer{Box: b, Pix: []api.Px{{1, 0, 0, 2}}}
	}
	l[4000].Pix = []api.Px{{0, 0, 255, 255}}
	merge(l...).holds(t, b)
	slices.Reverse(l)
	merge(l...).holds(t, b)
}

// P10.1: empty boxes, however they are told, and of empty buffers.
func TestOfEmpty(t *testing.T) {
	c := chance()
	for _, b := range []api.Rect{{}, of(1, 1, 1, 2), of(1, 1, 2, 1), of(3, 3, 1, 1), of(0, 3, 3, 0), of(3, 0, 0, 3), of(far/2, 0, far/2, 3), of(far/2, far/2, -far/2, -far/2)} {
		for range 20 {
			for _, call := range all(c, 0, 0) {
				if got := call.make(b); got.Box != (api.Rect{}) || len(got.Pix) != 0 {
					t.Errorf("%s at %v: %v", call.name, b, got)
				}
			}
		}
	}
	for _, src := range []api.Buffer{{}, {Pix: []api.Px{}}} {
		for _, b := range []api.Rect{of(0, 0, 1, 1), of(-2, -2, 3, 3), of(-far/2, -far/2, -far/2+2, -far/2+1)} {
			offset(src, 1, 2).holds(t, b)
			tile(src, of(0, 0, 2, 2)).holds(t, b)
			clip(src, b).holds(t, b)
			shadow(src, 1, 2, 3, 4, grey(255)).holds(t, b)
			merge(src, filled(c, b), src).holds(t, b)
		}
	}
}

// P10.1: boxes of as many points as there may be, square, wide and high.
func TestGreat(t *testing.T) {
	for _, x := range []struct{ w, h, rx, ry int }{
		{4096 - 2*most, 4096 - 2*most, most, most},
		{1<<24 - 2, 1, 1, 0},
		{1, 1<<24 - 2, 0, 1},
		{4096, 4096, 0, 0},
	} {
		b := of(-x.w/2, -x.h/2, x.w-x.w/2, x.h-x.h/2)
		src := raster.New(b)
		raster.Fill(&src, b, api.Px{10, 200, 3, 250})
		raster.Put(&src, b.X0, b.Y0, api.Px{25, 0, 25, 25})
		raster.Put(&src, 0, 0, api.Px{9, 20, 2, 25})
		at := [][2]int{{0, 0}, {b.X0, b.Y0}, {b.X1 - 1, b.Y0}, {b.X0, b.Y1 - 1}, {b.X1 - 1, b.Y1 - 1}, {b.X0 / 3, b.Y0 / 3}}
		offset(src, x.w/3, x.h/4).sees(t, b, at...)
		offset(src, -step, step).sees(t, b, at...)
		for _, r := range []api.Rect{of(0, 0, 1, 1), of(-1, -2, 6, 3), b, of(b.X0, 0, b.X1, 1), of(0, b.Y0, 1, b.Y1), of(-far/2, -far/2, far/2, far/2)} {
			tile(src, r).sees(t, b, at...)
		}
		clip(src, of(b.X0, b.Y0, 1, 1)).sees(t, b, at...)
		flood(grey(3), of(0, 0, far, far)).sees(t, b, at...)
		shadow(src, 1, 1, x.rx, x.ry, api.Px{0, 100, 0, 200}).sees(t, b, at...)
		merge(src, src).sees(t, b, at...)
	}
}

// P10.2: what right pixels make is right.
func TestMadeIsRight(t *testing.T) {
	c := chance()
	for range 3000 {
		for _, call := range all(c, 0, 0) {
			for _, p := range call.make(box(c, 0, 0)).Pix {
				if !tone.Right(p) {
					t.Fatalf("%s: %v isn't right", call.name, p)
				}
			}
		}
	}
}

// P10.2: tiled, what is a tile's width or height away is the same.
func TestTiledAway(t *testing.T) {
	c := chance()
	for range 1000 {
		src, r, b := filled(c, box(c, 0, 0)), box(c, 0, 0), box(c, 0, 0)
		w, h := r.X1-r.X0, r.Y1-r.Y0
		here := Tile(src, b, r)
		for _, by := range [][2]int{{w, 0}, {-w, 0}, {0, h}, {0, -h}, {-3 * w, 5 * h}, {w << 20, -h << 20}} {
			if there := Tile(src, rect.Move(b, by[0], by[1]), r); !slices.Equal(here.Pix, there.Pix) {
				t.Fatalf("%v tiled by %v at %v: %v, and %v away %v", src, r, b, here, by, there)
			}
		}
		wide := Tile(src, rect.Grow(b, 0, 0, 2*w, 2*h), r)
		points(b, func(_, x, y int) {
			if p := raster.At(wide, x, y); p != raster.At(wide, x+w, y) || p != raster.At(wide, x, y+h) || p != raster.At(wide, x+2*w, y+2*h) {
				t.Fatalf("%v tiled by %v at %v: %v", src, r, b, wide)
			}
		})
	}
}

// P10.2: offset there and back nothing changes.
func TestThereAndBack(t *testing.T) {
	c := chance()
	for n := range 1000 {
		dx, dy := some(c, 20), some(c, 20)
		if n%4 == 0 {
			dx, dy = some(c, step), some(c, step)
		}
		if n < 4 {
			dx, dy = step*(n%2*2-1), step*(n/2*2-1)
		}
		src := filled(c, box(c, 0, 0))
		there := Offset(src, rect.Move(src.Box, dx, dy), dx, dy)
		if !slices.Equal(there.Pix, src.Pix) {
			t.Fatalf("%v by %d, %d: %v", src, dx, dy, there)
		}
		if back := Offset(there, src.Box, -dx, -dy); back.Box != src.Box || !slices.Equal(back.Pix, src.Pix) {
			t.Fatalf("%v by %d, %d, and back: %v", src, dx, dy, back)
		}
	}
}

// P10.3: what is handed in stays, what is ahead of it in memory and its spare room too; and what is answered is new.
func TestStays(t *testing.T) {
	c := chance()
	for range 300 {
		var room []api.Px
		l := buffers(c, 4)
		l = append(l, filled(c, box(c, 0, 0)))
		for _, b := range l {
			room = slices.Concat(room, []api.Px{grey(7), grey(8)}, b.Pix)
		}
		room = append(room, grey(9), grey(6))
		was := slices.Clone(room)
		at := 0
		for i, b := range l {
			at += 2
			l[i].Pix = room[at : at+len(b.Pix)]
			at += len(b.Pix)
		}
		spare := slices.Concat(l, []api.Buffer{{Box: of(5, 5, 6, 6)}})
		src := l[len(l)-1]
		for _, call := range []call{
			offset(src, 0, 0), offset(src, some(c, 3), some(c, 3)), tile(src, box(c, 0, 0)), tile(src, src.Box), clip(src, src.Box), clip(src, box(c, 0, 0)),
			shadow(src, 0, 0, 0, 0, pixel(c)), shadow(src, 1, 0, 1, 2, pixel(c)), merge(src), merge(spare[:len(l)]...),
		} {
			for _, b := range []api.Rect{src.Box, box(c, 0, 0)} {
				got := call.make(b)
				for i, p := range spare {
					if i < len(l) && (p.Box != l[i].Box || len(p.Pix) != len(l[i].Pix)) || i == len(l) && p.Box != of(5, 5, 6, 6) {
						t.Fatalf("%s: the list is changed", call.name)
					}
				}
				if !slices.Equal(room, was) {
					t.Fatalf("%s: %v is changed to %v", call.name, was, room)
				}
				for i := range got.Pix[:cap(got.Pix)] {
					got.Pix[:cap(got.Pix)][i] = grey(77)
				}
				if !slices.Equal(room, was) {
					t.Fatalf("%s: what is answered shares memory with what is handed in", call.name)
				}
			}
		}
	}
}

// P10.3: two answers share no memory, and what is handed in may change behind them.
func TestNewMemory(t *testing.T) {
	b := of(0, 0, 4, 3)
	src := raster.New(b)
	for _, call := range []call{offset(src, 0, 0), tile(src, b), clip(src, b), flood(grey(44), b), shadow(src, 1, 1, 1, 0, grey(255)), merge(src), merge(src, src)} {
		raster.Fill(&src, b, grey(44))
		one := call.make(b)
		want := slices.Clone(one.Pix)
		other := call.make(b)
		clear(other.Pix)
		clear(src.Pix)
		if !slices.Equal(one.Pix, want) || slices.Equal(want, src.Pix) {
			t.Errorf("%s: memory is shared", call.name)
		}
	}
}

// wrongs answers buffers that aren't right.
func wrongs() []api.Buffer {
	pix := slices.Repeat([]api.Px{grey(5)}, 4)
	return []api.Buffer{
		{Pix: pix},
		{Box: of(0, 0, 2, 2)},
		{Box: of(0, 0, 2, 2), Pix: pix[:3]},
		{Box: of(0, 0, 1, 3), Pix: pix},
		{Box: of(2, 2, 0, 0), Pix: pix},
		{Box: of(far, far, far+2, far+2), Pix: pix},
		{Box: of(math.MinInt, math.MinInt, math.MaxInt, math.MaxInt), Pix: pix},
	}
}

// P1 of the whole: no call panics, and all end; a buffer that isn't right is as one that is nothing.
func TestWrongBuffers(t *testing.T) {
	c := chance()
	b := of(-1, -1, 3, 3)
	good := filled(c, of(0, 0, 3, 2))
	for _, src := range wrongs() {
		for _, call := range []call{offset(src, 0, 0), offset(src, 1, -1), tile(src, of(0, 0, 2, 2)), clip(src, b), shadow(src, 0, 0, 0, 0, grey(9)), shadow(src, 1, 1, 2, 2, grey(9)), shadow(src, step, 0, most, most, grey(9)), merge(src), merge(src, src)} {
			if got := call.make(b); got.Box != b || !slices.Equal(got.Pix, raster.New(b).Pix) {
				t.Error(call.name, src, got)
			}
		}
		if got := Merge([]api.Buffer{src, good, src}, b); !slices.Equal(got.Pix, raster.Window(good, b).Pix) {
			t.Error("Merge", src, got)
		}
	}
}

// P1 of the whole: by tiles that are none, and radii that are none, the answer is right still.
func TestWrongNumbers(t *testing.T) {
	c := chance()
	b := of(-1, -1, 3, 3)
	src := filled(c, b)
	for _, r := range []api.Rect{{}, of(1, 1, 1, 2), of(1, 1, 2, 1), of(2, 2, 0, 0), rect.All(), of(-far, 0, 1, 1), of(0, 0, far/2+1, 1), of(0, -far/2-1, 1, 1), of(math.MinInt, math.MinInt, math.MaxInt, math.MaxInt), of(math.MinInt, 0, 0, 1), of(math.MinInt, math.MinInt, 0, 0), of(0, 0, math.MaxInt, math.MaxInt), of(math.MaxInt, math.MaxInt, math.MinInt, math.MinInt)} {
		if got := Tile(src, b, r); got.Box != b || !slices.Equal(got.Pix, raster.New(b).Pix) {
			t.Error("Tile", r, got)
		}
	}
	for _, r := range []int{-1, most + 1, -most, 1 << 14, 1 << 20, 1 << 32, math.MinInt, math.MaxInt} {
		for _, q := range [][2]int{{r, 0}, {0, r}, {r, r}} {
			if got := Shadow(src, b, 0, 0, q[0], q[1], grey(255)); got.Box != b || !slices.Equal(got.Pix, src.Pix) {
				t.Error("Shadow", q, got)
			}
		}
	}
	for _, d := range []int{2 * step, far, 1 << 62, math.MaxInt, math.MinInt, math.MinInt + 1, -far} {
		offset(src, d, 0).holds(t, b)
		offset(src, 0, d).holds(t, b)
		for _, q := range [][2]int{{d, 0}, {0, d}, {d, d}} {
			if got := Shadow(src, b, q[0], q[1], 1, 1, grey(255)); got.Box != b || !slices.Equal(got.Pix, src.Pix) {
				t.Error("Shadow", q, got)
			}
		}
	}
}

// P1 of the whole: of boxes beyond the plane, and of those that no memory holds, the answer is right still.
func TestWrongBoxes(t *testing.T) {
	c := chance()
	for _, b := range []api.Rect{rect.All(), of(math.MinInt, math.MinInt, math.MaxInt, math.MaxInt), of(0, 0, 1<<40, 1<<24), of(-far, 0, far, 1), of(far-1, 0, far+1, 1), of(math.MaxInt-1, 0, math.MaxInt, 1), of(math.MinInt, 0, math.MinInt+1, 1)} {
		for _, at := range []int{0, far - 20, -far + 20} {
			for _, call := range all(c, at, 0) {
				if got := call.make(b); !raster.Right(got) {
					t.Error(call.name, b, at, got.Box)
				}
			}
		}
	}
	// At the ends of the plane nothing comes in from beyond.
	for _, b := range []api.Rect{of(far-5, far-5, far, far), of(-far, -far, -far+5, -far+5)} {
		src := filled(c, b)
		for _, d := range []int{-2, 0, 2} {
			offset(src, d, d).holds(t, b)
		}
		tile(filled(c, of(0, 0, 3, 3)), of(0, 0, 3, 4)).holds(t, b)
		clip(src, rect.All()).holds(t, b)
		merge(src, src).holds(t, b)
	}
}
