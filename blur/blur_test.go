package blur

import (
	"math"
	"math/rand"
	"slices"
	"testing"

	"gouache/api"
	"gouache/raster"
)

const (
	far  = api.Far
	most = api.MaxRadius
)

func of(x0, y0, x1, y1 int) api.Rect { return api.Rect{X0: x0, Y0: y0, X1: x1, Y1: y1} }

// grey answers a pixel all of whose values are n.
func grey(n uint8) api.Px { return api.Px{n, n, n, n} }

// points calls do with each point of a box, row by row, from the left to the right, and its number.
func points(box api.Rect, do func(i, x, y int)) {
	i := 0
	for y := box.Y0; y < box.Y1; y++ {
		for x := box.X0; x < box.X1; x++ {
			do(i, x, y)
			i++
		}
	}
}

// plane is pixels all over the plane: of points that it hasn't they are nothing.
type plane map[[2]int]api.Px

func spread(b api.Buffer) plane {
	p := plane{}
	points(b.Box, func(i, x, y int) { p[[2]int{x, y}] = b.Pix[i] })
	return p
}

// nearest looks for the number nearest to the n-th part of sum, by how far n times it is from sum.
func nearest(sum, n int) uint8 {
	best := 0
	for m := range 256 {
		if away(m*n, sum) < away(best*n, sum) {
			best = m
		}
	}
	return uint8(best)
}

func away(a, b int) int { return max(a-b, b-a) }

// mean is the chapter's word, of the pixels of a row (or a column), from r ahead of x, y to r behind it.
func mean(p plane, x, y, dx, dy, r int) api.Px {
	var sum [4]int
	for k := -r; k <= r; k++ {
		for i, v := range p[[2]int{x + k*dx, y + k*dy}] {
			sum[i] += int(v)
		}
	}
	var m api.Px
	for i := range m {
		m[i] = nearest(sum[i], 2*r+1)
	}
	return m
}

// blurred is what the words ask for: along rows, and of what that makes, along columns.
func blurred(src api.Buffer, box api.Rect, rx, ry int) []api.Px {
	from, rows := spread(src), plane{}
	points(of(box.X0, box.Y0-ry, box.X1, box.Y1+ry), func(_, x, y int) {
		rows[[2]int{x, y}] = mean(from, x, y, 1, 0, rx)
	})
	var l []api.Px
	points(box, func(_, x, y int) { l = append(l, mean(rows, x, y, 0, 1, ry)) })
	return l
}

// blurs holds what Box answers against the words.
func blurs(t *testing.T, src api.Buffer, box api.Rect, rx, ry int) {
	t.Helper()
	got := Box(src, box, rx, ry)
	if got.Box != box || !raster.Right(got) {
		t.Fatalf("of %v at %v by %d, %d: the box is %v, of %d pixels", src.Box, box, rx, ry, got.Box, len(got.Pix))
	}
	want := blurred(src, box, rx, ry)
	if slices.Equal(got.Pix, want) {
		return
	}
	points(box, func(i, x, y int) {
		if got.Pix[i] != want[i] {
			t.Fatalf("of %v at %v by %d, %d: %v at %d, %d, want %v", src, box, rx, ry, got.Pix[i], x, y, want[i])
		}
	})
}

// pixel answers a right pixel, one of three times nothing, now and then all of a value.
func pixel(c *rand.Rand) api.Px {
	switch c.Intn(6) {
	case 0, 1:
		return api.Px{}
	case 2:
		return grey(255)
	}
	alpha := c.Intn(256)
	colour := func() uint8 { return uint8(c.Intn(alpha + 1)) }
	return api.Px{colour(), colour(), colour(), uint8(alpha)}
}

// filled answers a buffer of a box (that isn't turned about); of some of its rows, all pixels are nothing.
func filled(c *rand.Rand, box api.Rect) api.Buffer {
	b := api.Buffer{Box: box}
	for range box.Y1 - box.Y0 {
		bare := c.Intn(3) == 0
		for range box.X1 - box.X0 {
			p := pixel(c)
			if bare {
				p = api.Px{}
			}
			b.Pix = append(b.Pix, p)
		}
	}
	return b
}

// box answers a box of at most 7 by 7 points by the place x, y.
func box(c *rand.Rand, x, y int) api.Rect {
	x0, y0 := x+c.Intn(12)-6, y+c.Intn(12)-6
	return of(x0, y0, x0+1+c.Intn(7), y0+1+c.Intn(7))
}

func chance() *rand.Rand { return rand.New(rand.NewSource(8)) }

// P8.1: small boxes and radii, that meet in all ways, or don't.
func TestBox(t *testing.T) {
	c := chance()
	for range 6000 {
		blurs(t, filled(c, box(c, 0, 0)), box(c, 0, 0), c.Intn(5), c.Intn(5))
	}
}

// P8.1: each pair of radii from 0 on, both boxes in one another.
func TestBoxRadii(t *testing.T) {
	c := chance()
	small, great := of(-1, 2, 3, 5), of(-9, -8, 10, 13)
	for rx := range 12 {
		for ry := range 12 {
			blurs(t, filled(c, small), great, rx, ry)
			blurs(t, filled(c, great), small, rx, ry)
			blurs(t, filled(c, great), great, rx, ry)
		}
	}
}

// P8.1: radii up to the greatest one.
func TestBoxGreatRadii(t *testing.T) {
	c := chance()
	for _, r := range []int{30, 127, most - 1, most} {
		for _, s := range []int{0, 2, most} {
			wide, high := filled(c, of(-r-2, -1, r+3, 2)), filled(c, of(-1, -r-2, 2, r+3))
			at := of(-2, -2, 3, 3)
			blurs(t, wide, at, r, s)
			blurs(t, wide, at, s, r)
			blurs(t, high, at, r, s)
			blurs(t, high, at, s, r)
		}
	}
	// All of a row that comes in, stays and leaves again.
	row := filled(c, of(0, 0, 40, 1))
	blurs(t, row, of(-most-2, 0, 42+most, 1), most, 0)
	blurs(t, row, of(20, -most-2, 21, most+3), 3, most)
}

// P8.1: boxes that are wider than columns are taken side by side, and edges where one lot of them ends.
func TestBoxWide(t *testing.T) {
	c := chance()
	src := filled(c, of(-3, 0, 2*wide+5, 4))
	for _, w := range []int{wide - 1, wide, wide + 1, 2 * wide, 2*wide + 1} {
		blurs(t, src, of(0, -1, w, 4), 2, 1)
	}
	blurs(t, src, of(-8, 1, 2*wide+9, 3), 1, 2)
}

// P8.1: at the ends that a box may have, and at those of the plane, where only a source may be.
func TestBoxFar(t *testing.T) {
	c := chance()
	for _, x := range []int{-far / 2, -1, far / 2} {
		for _, y := range []int{-far / 2, 0, far / 2} {
			for range 20 {
				at := func(n, by int) int { return max(-far/2, min(n+by, far/2-7)) }
				x0, y0 := at(x, c.Intn(9)-4), at(y, c.Intn(9)-4)
				to := of(x0, y0, x0+1+c.Intn(7), y0+1+c.Intn(7))
				blurs(t, filled(c, box(c, x, y)), to, c.Intn(4), c.Intn(4))
			}
		}
	}
	for _, b := range []api.Rect{of(-far, -far, -far+2, -far+2), of(far-2, far-2, far, far), of(-far, far-2, -far+2, far)} {
		src := filled(c, b)
		for _, x := range []int{-far / 2, 0, far/2 - 2} {
			blurs(t, src, of(x, x, x+2, x+2), 3, 3)
		}
	}
}

// P8.1: a row (a column) as long as the plane is wide could not be, but one of a source far out of the box can be long.
func TestBoxOfLongRows(t *testing.T) {
	c := chance()
	long, high := filled(c, of(-5000, 0, 5000, 1)), filled(c, of(0, -5000, 1, 5000))
	for _, x := range []int{-5003, -5001, -4999, 0, 4996, 4999, 5001, 5003} {
		blurs(t, long, of(x, -1, x+3, 2), 2, 1)
		blurs(t, high, of(-1, x, 2, x+3), 1, 2)
	}
}

// P8.1: the examples of the chapter and of the whole, and others as numbers.
func TestBoxExamples(t *testing.T) {
	one := func(p api.Px) api.Buffer { return api.Buffer{Box: of(0, 0, 1, 1), Pix: []api.Px{p}} }
	nine := slices.Repeat([]api.Px{grey(1)}, 9)
	for _, x := range []struct {
		src    api.Buffer
		box    api.Rect
		rx, ry int
		want   []api.Px
	}{
		{one(grey(9)), of(-2, 0, 3, 1), 1, 0, []api.Px{{}, grey(3), grey(3), grey(3), {}}},
		{one(grey(9)), of(0, -2, 1, 3), 0, 1, []api.Px{{}, grey(3), grey(3), grey(3), {}}},
		{one(grey(9)), of(-1, 0, 2, 1), 1, 0, []api.Px{grey(3), grey(3), grey(3)}},
		{one(grey(9)), of(-1, -1, 2, 2), 1, 1, nine},
		{one(api.Px{90, 0, 0, 90}), of(-1, 0, 2, 1), 1, 0, []api.Px{{30, 0, 0, 30}, {30, 0, 0, 30}, {30, 0, 0, 30}}},
		// Of 1 a third is nearest to 0, of 2 to 1.
		{one(api.Px{1, 2, 4, 5}), of(0, 0, 1, 1), 1, 0, []api.Px{{0, 1, 1, 2}}},
		{one(api.Px{1, 2, 4, 5}), of(0, 0, 1, 1), 0, 1, []api.Px{{0, 1, 1, 2}}},
		// 255 of 511 is less than the half of one, 256 would be more.
		{one(grey(255)), of(0, 0, 1, 1), most, 0, []api.Px{{}}},
		{one(grey(255)), of(0, 0, 1, 1), most - 1, 0, []api.Px{grey(1)}},
		{api.Buffer{Box: of(0, 0, 2, 1), Pix: []api.Px{grey(255), grey(1)}}, of(0, 0, 1, 1), most, 0, []api.Px{grey(1)}},
	} {
		if got := Box(x.src, x.box, x.rx, x.ry); got.Box != x.box || !slices.Equal(got.Pix, x.want) {
			t.Errorf("of %v at %v by %d, %d: %v, want %v", x.src, x.box, x.rx, x.ry, got, x.want)
		}
	}
}

// P8.1: columns are blurred behind rows, and of whole numbers. Of a 2 above a 2 the means along rows by 1 are 1 and 1,
// whose mean along the column is 1; the other way round 4 would make 1, and that 0, as it does of a 2 beside a 2.
func TestRowsComeFirst(t *testing.T) {
	high := api.Buffer{Box: of(0, 0, 1, 2), Pix: []api.Px{grey(2), grey(2)}}
	if got := Box(high, of(0, 0, 1, 1), 1, 1).Pix[0]; got != grey(1) {
		t.Errorf("one above the other: %v", got)
	}
	wide := api.Buffer{Box: of(0, 0, 2, 1), Pix: []api.Px{grey(2), grey(2)}}
	if got := Box(wide, of(0, 0, 1, 1), 1, 1).Pix[0]; got != (api.Px{}) {
		t.Errorf("side by side: %v", got)
	}
}

// P8.1: rows that have nothing in them, ahead of others, between them and behind them; one far pixel alone in its row.
func TestBareRows(t *testing.T) {
	for n := range 7 {
		for x := range 5 {
			src := raster.New(of(0, 0, 5, 7))
			raster.Put(&src, x, n, api.Px{200, 100, 0, 255})
			raster.Put(&src, 4-x, 6-n, api.Px{0, 0, 9, 9})
			blurs(t, src, of(-3, -3, 8, 10), 2, 2)
			blurs(t, src, of(1, 2, 3, 5), 1, 1)
		}
	}
	bare := raster.New(of(0, 0, 5, 7))
	blurs(t, bare, of(-1, -1, 6, 8), 1, 1)
	// A row whose pixels are out of the box's reach is as one that has nothing.
	raster.Put(&bare, 4, 3, grey(255))
	blurs(t, bare, of(-1, 0, 2, 7), 2, 1)
}

// P8.1: each of the four values has sums of its own.
func TestValueByValue(t *testing.T) {
	c := chance()
	b := of(-3, -3, 4, 4)
	for i := range 4 {
		src, all := filled(c, b), filled(c, b)
		for k := range src.Pix {
			all.Pix[k][i] = src.Pix[k][i]
		}
		one, other := Box(src, b, 2, 1), Box(all, b, 2, 1)
		for k := range one.Pix {
			if one.Pix[k][i] != other.Pix[k][i] {
				t.Fatalf("value %d hangs on others", i)
			}
		}
	}
}

// P8.1: empty boxes, however they are told, and of empty buffers.
func TestBoxOfEmpty(t *testing.T) {
	src := filled(chance(), of(0, 0, 3, 3))
	for _, b := range []api.Rect{{}, of(1, 1, 1, 2), of(1, 1, 2, 1), of(3, 3, 1, 1), of(0, 3, 3, 0), of(3, 0, 0, 3), of(far/2, 0, far/2, 3), of(far/2, far/2, -far/2, -far/2)} {
		for _, r := range []int{0, 1, most} {
			if got := Box(src, b, r, r); got.Box != (api.Rect{}) || len(got.Pix) != 0 {
				t.Errorf("at %v by %d: %v", b, r, got)
			}
		}
	}
	for _, b := range []api.Rect{of(0, 0, 1, 1), of(-2, -2, 3, 3), of(-far/2, -far/2, -far/2+2, -far/2+1)} {
		blurs(t, api.Buffer{}, b, 2, 3)
		blurs(t, api.Buffer{Pix: []api.Px{}}, b, 0, 0)
	}
}

// P8.1: boxes of as many points as there may be with the radii, square, wide and high.
func TestBoxGreat(t *testing.T) {
	for _, x := range []struct{ w, h, rx, ry int }{
		{4096 - 2*most, 4096 - 2*most, most, most},
		{1<<24 - 2, 1, 1, 0},
		{1, 1<<24 - 2, 0, 1},
		{1<<15 - 2*most, 1, most, most},
		{4096, 4096, 0, 0},
	} {
		p, q := api.Px{10, 200, 3, 255}, api.Px{255, 0, 255, 255}
		whole := of(-x.w/2, -x.h/2, x.w-x.w/2, x.h-x.h/2)
		src := raster.New(whole)
		raster.Fill(&src, whole, p)
		raster.Fill(&src, of(whole.X0, whole.Y0, whole.X0+1, whole.Y0+1), q)
		got := Box(src, whole, x.rx, x.ry)
		if got.Box != whole || !raster.Right(got) {
			t.Fatalf("%v: %v", x, got.Box)
		}
		// A few places, of which each sees some of an edge, or none.
		for _, at := range [][2]int{{whole.X0, whole.Y0}, {whole.X1 - 1, whole.Y1 - 1}, {whole.X0 + x.w/3, whole.Y0}, {whole.X0, whole.Y1 - 1}, {0, 0}} {
			near := raster.Window(src, of(at[0]-x.rx, at[1]-x.ry, at[0]+x.rx+1, at[1]+x.ry+1))
			want := blurred(near, of(at[0], at[1], at[0]+1, at[1]+1), x.rx, x.ry)[0]
			if p := raster.At(got, at[0], at[1]); p != want {
				t.Errorf("%v: %v at %v, want %v", x, p, at, want)
			}
		}
	}
}

// P8.2: what right pixels make is right.
func TestMadeIsRight(t *testing.T) {
	c := chance()
	for range 3000 {
		got := Box(filled(c, box(c, 0, 0)), box(c, 0, 0), c.Intn(6), c.Intn(6))
		for _, p := range got.Pix {
			if p[0] > p[3] || p[1] > p[3] || p[2] > p[3] {
				t.Fatalf("%v isn't right", p)
			}
		}
	}
}

// P8.2: by 0 and 0 nothing changes, of pixels that aren't right too.
func TestByNothing(t *testing.T) {
	c := chance()
	for range 3000 {
		src, b := filled(c, box(c, 0, 0)), box(c, 0, 0)
		src.Pix[0] = api.Px{255, 1, 0, 0}
		got, want := Box(src, b, 0, 0), raster.Window(src, b)
		if got.Box != want.Box || !slices.Equal(got.Pix, want.Pix) {
			t.Fatalf("of %v at %v: %v", src, b, got)
		}
	}
}

// P8.2: what is the same all around stays, of each value there is, by radii up to the greatest.
func TestSameAllAround(t *testing.T) {
	for n := range 256 {
		p := api.Px{uint8(n), uint8(n / 2), 0, uint8(n)}
		for _, r := range [][2]int{{0, 1}, {1, 0}, {3, 2}, {7, 19}} {
			stays(t, p, r[0], r[1])
		}
	}
	for _, n := range []uint8{1, 2, 127, 128, 254, 255} {
		stays(t, grey(n), most, most)
		stays(t, grey(n), most, 0)
		stays(t, grey(n), 1, most)
	}
}

// stays holds a box against p, that has p all around it as far as the radii go, and no farther.
func stays(t *testing.T, p api.Px, rx, ry int) {
	t.Helper()
	all := of(-rx, -ry, 3+rx, 2+ry)
	src := raster.New(all)
	raster.Fill(&src, all, p)
	if got := Box(src, of(0, 0, 3, 2), rx, ry); !slices.Equal(got.Pix, slices.Repeat([]api.Px{p}, 6)) {
		t.Errorf("%v by %d, %d: %v", p, rx, ry, got.Pix)
	}
}

// P8.3: what is handed in stays, what is ahead of it in memory and its spare room too.
func TestStays(t *testing.T) {
	c := chance()
	for range 500 {
		src := filled(c, box(c, 0, 0))
		room := slices.Concat([]api.Px{grey(7), grey(8)}, src.Pix, []api.Px{grey(9), grey(6)})
		was := slices.Clone(room)
		handed := api.Buffer{Box: src.Box, Pix: room[2 : 2+len(src.Pix)]}
		got := Box(handed, box(c, 0, 0), c.Intn(4), c.Intn(4))
		if !slices.Equal(room, was) || handed.Box != src.Box {
			t.Fatalf("%v is changed to %v", was, room)
		}
		for i := range got.Pix[:cap(got.Pix)] {
			got.Pix[:cap(got.Pix)][i] = grey(77)
		}
		if !slices.Equal(room, was) {
			t.Fatal("what is answered shares memory with what is handed in")
		}
	}
}

// P8.3: what is answered is new memory, by 0 and 0 too, and what is handed in may change behind it.
func TestNewMemory(t *testing.T) {
	b := of(0, 0, 4, 3)
	for _, r := range [][2]int{{0, 0}, {1, 0}, {0, 1}, {2, 2}} {
		src := filled(chance(), b)
		one := Box(src, b, r[0], r[1])
		want := slices.Clone(one.Pix)
		other := Box(src, b, r[0], r[1])
		clear(other.Pix)
		clear(src.Pix)
		if !slices.Equal(one.Pix, want) {
			t.Errorf("by %v: memory is shared", r)
		}
	}
}

// wrongs answers buffers that aren't right.
func wrongs() []api.Buffer {
	pix := slices.Repeat([]api.Px{grey(5)}, 4)
	return []api.Buffer{
		{Pix: pix},
		{Box: of(0, 0, 2, 2)},
		{Box: of(0, 0, 2, 2), Pix: pix[:3]},
		{Box: of(0, 0, 1, 3), Pix: pix},
		{Box: of(2, 2, 0, 0), Pix: pix},
		{Box: of(far, far, far+2, far+2), Pix: pix},
		{Box: of(math.MinInt, math.MinInt, math.MaxInt, math.MaxInt), Pix: pix},
	}
}

// P1 of the whole: no call panics, and all end; of what is wrong, nothing is made.
func TestWrong(t *testing.T) {
	b := of(-1, -1, 3, 3)
	nothing := func(got api.Buffer) {
		t.Helper()
		if got.Box != b || !slices.Equal(got.Pix, raster.New(b).Pix) {
			t.Error(got)
		}
	}
	for _, src := range wrongs() {
		nothing(Box(src, b, 0, 0))
		nothing(Box(src, b, 1, 2))
		nothing(Box(src, b, most, most))
	}
	src := filled(chance(), b)
	for _, r := range []int{-1, most + 1, -most, 1 << 20, 1 << 32, math.MinInt, math.MaxInt} {
		nothing(Box(src, b, r, 0))
		nothing(Box(src, b, 0, r))
		nothing(Box(src, b, r, r))
	}
}

// P1 of the whole: of boxes beyond the plane, and of those that no memory holds, the answer is right still.
func TestWrongBoxes(t *testing.T) {
	c := chance()
	for _, b := range []api.Rect{of(-far, -far, far, far), of(math.MinInt, math.MinInt, math.MaxInt, math.MaxInt), of(0, 0, 1<<40, 1<<24), of(-far, 0, far, 1), of(far-1, 0, far+1, 1), of(math.MaxInt-1, 0, math.MaxInt, 1), of(math.MinInt, 0, math.MinInt+1, 1)} {
		for _, at := range []api.Rect{of(0, 0, 2, 2), of(far-2, 0, far, 2), of(-far, -far, -far+2, -far+2)} {
			for _, r := range []int{0, 1, most, -1} {
				if got := Box(filled(c, at), b, r, r); !raster.Right(got) {
					t.Error(b, at, r, got.Box)
				}
			}
		}
	}
	// At the ends of the plane nothing comes in from beyond.
	for _, b := range []api.Rect{of(far-3, far-3, far, far), of(-far, -far, -far+3, -far+3)} {
		blurs(t, filled(c, b), b, 2, 1)
	}
}
