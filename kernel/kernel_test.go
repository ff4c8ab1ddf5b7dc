package kernel

import (
	"math"
	"math/rand"
	"slices"
	"testing"

	"gouache/api"
	"gouache/node"
	"gouache/raster"
	"gouache/rect"
)

const far = api.Far

// byPoint lists the kinds that go point by point.
var byPoint = []int{api.Matrix, api.Flood, api.Blend, api.Composite, api.Merge, api.Clip}

func chance() *rand.Rand { return rand.New(rand.NewSource(15)) }

func of(x0, y0, x1, y1 int) api.Rect { return api.Rect{X0: x0, Y0: y0, X1: x1, Y1: y1} }

// none answers a node of a kind without inputs.
func none(op int, p ...int) api.Node { return api.Node{Op: op, P: p} }

// one answers a node of a kind that has Source alone.
func one(op int, p ...int) api.Node { return api.Node{Op: op, In: []int{api.Source}, P: p} }

// two answers a node of a kind that has two nodes.
func two(op int, p ...int) api.Node { return api.Node{Op: op, In: []int{1, 0}, P: p} }

// matrix answers a matrix that is 0 but at these places, by turns a place and what is there.
func matrix(at ...int) []int {
	m := make([]int, 20)
	for i := 0; i < len(at); i += 2 {
		m[at[i]] = at[i+1]
	}
	return m
}

// grey answers a pixel all of whose values are n.
func grey(n uint8) api.Px { return api.Px{n, n, n, n} }

// row answers a buffer of one row, whose first pixel is at x, 0.
func row(x int, pix ...api.Px) api.Buffer {
	return api.Buffer{Box: of(x, 0, x+len(pix), 1), Pix: pix}
}

// P15.1: the chapter's example, and those of the chapters that it names.
func TestExamples(t *testing.T) {
	p, q, n := api.Px{100, 0, 0, 200}, api.Px{0, 0, 0, 255}, api.Px{}
	spot, nine := of(0, 0, 1, 1), row(0, grey(9))
	red, half := Do(none(api.Flood, 255, 0, 0, 255, 0, 0, 1, 1), nil, spot), Do(none(api.Flood, 128, 128, 128, 255, 0, 0, 1, 1), nil, spot)
	for i, x := range []struct {
		n    api.Node
		in   []api.Buffer
		box  api.Rect
		want []api.Px
	}{
		{two(api.Blend, api.Multiply), []api.Buffer{red, half}, spot, []api.Px{{128, 0, 0, 255}}},
		{two(api.Composite, api.In), []api.Buffer{nine, row(0, api.Px{0, 0, 0, 128})}, spot, []api.Px{grey(5)}},
		{one(api.Matrix, matrix(3, 256, 8, 256, 13, 256, 18, 256)...), []api.Buffer{row(0, api.Px{0, 0, 0, 128})}, spot, []api.Px{{64, 64, 64, 128}}},
		{one(api.Blur, 1, 0), []api.Buffer{nine}, of(-2, 0, 3, 1), []api.Px{n, grey(3), grey(3), grey(3), n}},
		{one(api.Blur, 1, 1), []api.Buffer{nine}, of(-1, -1, 2, 2), slices.Repeat([]api.Px{grey(1)}, 9)},
		{one(api.Dilate, 1, 0), []api.Buffer{nine}, of(-2, 0, 3, 1), []api.Px{n, grey(9), grey(9), grey(9), n}},
		{one(api.Erode, 1, 0), []api.Buffer{nine}, of(-1, 0, 2, 1), []api.Px{n, n, n}},
		{one(api.Tile, 0, 0, 2, 1), []api.Buffer{row(0, p, q)}, of(-1, 0, 3, 1), []api.Px{q, p, q, p}},
		{one(api.Offset, 1, 0), []api.Buffer{row(0, p)}, of(0, 0, 3, 1), []api.Px{n, p, n}},
	} {
		if got := Do(x.n, x.in, x.box); got.Box != x.box || !slices.Equal(got.Pix, x.want) {
			t.Error(i, got)
		}
	}
}

// P15.1: each parameter has its own place: one node of each kind that has two or more.
func TestParameters(t *testing.T) {
	p, q, n := api.Px{100, 0, 0, 200}, api.Px{0, 50, 0, 100}, api.Px{}
	b := []api.Buffer{{Box: of(0, 0, 2, 2), Pix: []api.Px{p, q, q, grey(9)}}}
	for i, x := range []struct {
		n    api.Node
		box  api.Rect
		want []api.Px
	}{
		{one(api.Offset, 2, -1), of(2, -1, 4, 1), b[0].Pix},
		{one(api.Offset, -1, 2), of(-1, 2, 1, 4), b[0].Pix},
		{one(api.Blur, 0, 1), of(0, -1, 1, 3), []api.Px{{33, 0, 0, 67}, {33, 17, 0, 100}, {33, 17, 0, 100}, {0, 17, 0, 33}}},
		{one(api.Blur, 1, 0), of(-1, 0, 3, 1), []api.Px{{33, 0, 0, 67}, {33, 17, 0, 100}, {33, 17, 0, 100}, {0, 17, 0, 33}}},
		{one(api.Erode, 0, 1), of(0, 0, 1, 2), []api.Px{n, n}},
		{one(api.Dilate, 0, 1), of(0, -1, 1, 3), []api.Px{p, {100, 50, 0, 200}, {100, 50, 0, 200}, q}},
		{one(api.Dilate, 1, 0), of(-1, 0, 3, 1), []api.Px{p, {100, 50, 0, 200}, {100, 50, 0, 200}, q}},
		{one(api.Tile, 1, 0, 2, 2), of(0, 0, 2, 2), []api.Px{q, q, grey(9), grey(9)}},
		{one(api.Tile, 0, 1, 2, 2), of(0, 0, 2, 2), []api.Px{q, grey(9), q, grey(9)}},
		{one(api.Clip, 1, 0, 2, 2), of(0, 0, 2, 2), []api.Px{n, q, n, grey(9)}},
		{one(api.Clip, 0, 1, 2, 2), of(0, 0, 2, 2), []api.Px{n, n, q, grey(9)}},
		{none(api.Flood, 1, 2, 3, 4, 0, 1, 2, 3), of(-1, 0, 3, 4), []api.Px{n, n, n, n, n, {1, 2, 3, 4}, {1, 2, 3, 4}, n, n, {1, 2, 3, 4}, {1, 2, 3, 4}, n, n, n, n, n}},
		{one(api.Shadow, 3, 4, 0, 0, 11, 22, 33, 255), of(3, 4, 5, 6), []api.Px{{9, 17, 26, 200}, {4, 9, 13, 100}, {4, 9, 13, 100}, {0, 1, 1, 9}}},
		{one(api.Shadow, 3, 4, 1, 0, 0, 0, 0, 255), of(2, 4, 6, 5), []api.Px{{0, 0, 0, 67}, {0, 0, 0, 100}, {0, 0, 0, 100}, {0, 0, 0, 33}}},
		{one(api.Shadow, 3, 4, 0, 1, 0, 0, 0, 255), of(3, 3, 4, 7), []api.Px{{0, 0, 0, 67}, {0, 0, 0, 100}, {0, 0, 0, 100}, {0, 0, 0, 33}}},
		// What casts the shadow is on top of it.
		{one(api.Shadow, 1, 0, 0, 0, 200, 0, 0, 200), of(0, 0, 3, 1), []api.Px{p, {95, 50, 0, 195}, {78, 0, 0, 78}}},
	} {
		if fault := node.One(x.n, 1); fault != api.OK {
			t.Error(i, "is no right node:", fault)
		}
		var in []api.Buffer
		for range x.n.In {
			in = b
		}
		if got := Do(x.n, in, x.box); got.Box != x.box || !slices.Equal(got.Pix, x.want) {
			t.Error(i, got)
		}
	}
}

// P15.1: each mode and each operator, the first input on top of the second; by Do and by At.
func TestModes(t *testing.T) {
	a, b := api.Px{100, 0, 40, 200}, api.Px{0, 50, 60, 100}
	for op, all := range map[int][]api.Px{
		api.Blend:     {{100, 11, 53, 222}, {61, 11, 46, 222}, {100, 50, 91, 222}, {61, 11, 53, 222}, {100, 50, 84, 222}, {100, 50, 68, 222}, {100, 50, 100, 255}},
		api.Composite: {{100, 11, 53, 222}, {39, 0, 16, 78}, {61, 0, 24, 122}, {39, 11, 29, 100}, {61, 11, 37, 144}, {}},
	} {
		for p, want := range all {
			if got := Do(two(op, p), []api.Buffer{row(0, a), row(0, b)}, of(0, 0, 1, 1)); !slices.Equal(got.Pix, []api.Px{want}) {
				t.Error("Do", op, p, got)
			}
			if got := At(two(op, p), []api.Px{a, b}, 5, -5); got != want {
				t.Error("At", op, p, got)
			}
		}
	}
}

// P15.1: inputs that have pixels elsewhere, or nowhere: where there are none, nothing is mixed.
func TestModesApart(t *testing.T) {
	a, b, n := api.Px{100, 0, 40, 200}, api.Px{0, 50, 60, 100}, api.Px{}
	left, right, all := row(0, a), row(1, b), of(-1, 0, 3, 1)
	for i, x := range []struct {
		n    api.Node
		want []api.Px
	}{
		{two(api.Blend, api.Normal), []api.Px{n, a, b, n}},
		{two(api.Blend, api.Multiply), []api.Px{n, a, b, n}},
		{two(api.Blend, api.Plus), []api.Px{n, a, b, n}},
		{two(api.Composite, api.Over), []api.Px{n, a, b, n}},
		{two(api.Composite, api.In), []api.Px{n, n, n, n}},
		{two(api.Composite, api.Out), []api.Px{n, a, n, n}},
		{two(api.Composite, api.Atop), []api.Px{n, n, b, n}},
		{two(api.Composite, api.Xor), []api.Px{n, a, b, n}},
		{two(api.Composite, api.Clear), []api.Px{n, n, n, n}},
		{two(api.Merge), []api.Px{n, a, b, n}},
	} {
		if got := Do(x.n, []api.Buffer{left, right}, all); got.Box != all || !slices.Equal(got.Pix, x.want) {
			t.Error(i, got)
		}
		if got := Do(x.n, make([]api.Buffer, 2), all); got.Box != all || !slices.Equal(got.Pix, make([]api.Px, 4)) {
			t.Error(i, "of nothing", got)
		}
	}
}

// P15.1: a matrix that makes something of nothing makes it all over the box, beside the input's too.
func TestMatrix(t *testing.T) {
	src := []api.Buffer{row(0, api.Px{100, 0, 0, 200}, grey(255))}
	for i, x := range []struct {
		m    []int
		want []api.Px
	}{
		{matrix(0, 256, 6, 256, 12, 256, 18, 256), []api.Px{{}, {100, 0, 0, 200}, grey(255), {}}},
		{matrix(4, 256, 19, 128), []api.Px{{128, 0, 0, 128}, {128, 0, 0, 128}, {128, 0, 0, 128}, {128, 0, 0, 128}}},
		{matrix(18, -256, 19, 256), []api.Px{{0, 0, 0, 255}, {0, 0, 0, 55}, {}, {0, 0, 0, 255}}},
		{matrix(18, 32767), []api.Px{{}, {0, 0, 0, 255}, {0, 0, 0, 255}, {}}},
		{matrix(19, -32768, 18, 32767), []api.Px{{}, {}, {}, {}}},
		{matrix(), []api.Px{{}, {}, {}, {}}},
	} {
		if got := Do(one(api.Matrix, x.m...), src, of(-1, 0, 3, 1)); !slices.Equal(got.Pix, x.want) {
			t.Error(i, got)
		}
		for k, want := range x.want {
			if got := At(one(api.Matrix, x.m...), at(src, k-1, 0), k-1, 0); got != want {
				t.Error(i, "at", k-1, got)
			}
		}
	}
}

// P15.1: a Merge of one to as many as there may be: each further one on top.
func TestMerge(t *testing.T) {
	c := chance()
	spot := of(0, 0, 1, 1)
	for n := 1; n <= api.MaxMerge; n++ {
		for range 100 {
			m := none(api.Merge)
			var in []api.Buffer
			var pix []api.Px
			for k := range n {
				m.In = append(m.In, n-k)
				pix = append(pix, drawPixel(c))
				in = append(in, row(0, pix[k]))
			}
			want := over(pix[0], pix[1:]...)
			if got := Do(m, in, spot); got.Box != spot || !slices.Equal(got.Pix, []api.Px{want}) {
				t.Fatal("Do", pix, got, want)
			}
			if got := At(m, pix, 0, 0); got != want {
				t.Fatal("At", pix, got, want)
			}
		}
		// One that covers all hides those ahead of it, not those behind.
		pix := slices.Repeat([]api.Px{{9, 0, 0, 9}}, n)
		pix[n-1] = api.Px{0, 0, 255, 255}
		if got := At(none(api.Merge), pix, 0, 0); got != pix[n-1] {
			t.Error(n, got)
		}
		slices.Reverse(pix)
		if got := At(none(api.Merge), pix, 0, 0); n > 1 && got == pix[0] {
			t.Error(n, got)
		}
	}
}

// P15.1: parameters at their bounds.
func TestBounds(t *testing.T) {
	c := chance()
	const end, most = api.MaxCoord, api.MaxRadius
	for _, dx := range []int{-end, 0, end} {
		for _, dy := range []int{-end, end} {
			src := []api.Buffer{picture(c, of(-3, -2, 4, 3))}
			near := rect.Move(src[0].Box, dx, dy)
			holds(t, one(api.Offset, dx, dy), src, near)
			shade := one(api.Shadow, dx, dy, 1, 2, 100, 0, 200, 200)
			holds(t, shade, src, near)
			holds(t, shade, src, src[0].Box)
		}
	}
	for _, r := range [][2]int{{most, 0}, {0, most}, {most, 1}, {2, most}} {
		src := []api.Buffer{raster.New(of(-40, -3, 41, 3))}
		raster.Fill(&src[0], src[0].Box, grey(200))
		raster.Put(&src[0], 0, 0, grey(7))
		for _, to := range []api.Rect{of(-2, -2, 2, 1), of(r[0]-5, r[1]-5, r[0]+3, r[1]+3), of(-r[0]-3, -r[1]-3, -r[0]+2, -r[1]+2)} {
			holds(t, one(api.Blur, r[0], r[1]), src, to)
			holds(t, one(api.Erode, r[0], r[1]), src, to)
			holds(t, one(api.Dilate, r[0], r[1]), src, to)
			holds(t, one(api.Shadow, 0, 1, r[0], r[1], 0, 0, 255, 255), src, to)
		}
	}
	for _, r := range []api.Rect{of(-end, -end, end, end), of(end, end, -end, -end), of(-end, 0, 0, end), of(0, -end, end, 0), of(end, end, end, end)} {
		for _, x := range []int{-end, 0, end} {
			src := []api.Buffer{picture(c, of(x-3, -x-2, x+4, -x+3))}
			holds(t, one(api.Clip, r.X0, r.Y0, r.X1, r.Y1), src, src[0].Box)
			holds(t, none(api.Flood, 255, 255, 255, 255, r.X0, r.Y0, r.X1, r.Y1), nil, src[0].Box)
			holds(t, none(api.Flood, 0, 0, 0, 0, r.X0, r.Y0, r.X1, r.Y1), nil, src[0].Box)
		}
	}
	const side = api.MaxSide
	for _, r := range []api.Rect{of(0, 0, side, side), of(-end, -end, -end+side, -end+1), of(end-1, end-side, end, end), of(-1, -1, 0, 0)} {
		src := []api.Buffer{picture(c, of(r.X0-2, r.Y0-2, r.X0+5, r.Y0+4))}
		for _, to := range []api.Rect{of(r.X0-3, r.Y0-3, r.X0+4, r.Y0+3), of(r.X1-3, r.Y1-3, r.X1+4, r.Y1+3), of(-end, end-4, -end+5, end)} {
			holds(t, one(api.Tile, r.X0, r.Y0, r.X1, r.Y1), src, to)
		}
	}
}

// P15.1: of a box without points, whatever its edges are, a buffer without pixels is made.
func TestEmptyBox(t *testing.T) {
	c := chance()
	for op := 1; op <= 12; op++ {
		for _, b := range []api.Rect{{}, of(1, 1, 1, 2), of(1, 1, 2, 1), of(3, 3, 1, 1), of(0, 3, 3, 0), of(far/2, 0, far/2, 3), of(far/2, far/2, -far/2, -far/2)} {
			n, in := drawNode(t, c, op, 0, 0)
			if got := Do(n, in, b); got.Box != (api.Rect{}) || len(got.Pix) != 0 {
				t.Error(n, b, got)
			}
		}
	}
}

// P15.1: which nodes inputs are of says nothing of what is made: they are handed in.
func TestInputsAreHandedIn(t *testing.T) {
	c := chance()
	for range 100 {
		for op := 1; op <= 12; op++ {
			n, in := drawNode(t, c, op, 0, 0)
			b := box(c, 0, 0)
			was := Do(n, in, b)
			for i := range n.In {
				n.In[i] = c.Intn(256) - 1
			}
			if got := Do(n, in, b); !slices.Equal(got.Pix, was.Pix) {
				t.Fatal(n, in, b, was, got)
			}
		}
	}
}

// P15.1: which kinds go point by point, and that what is no kind doesn't.
func TestByPoint(t *testing.T) {
	for op := -300; op < 300; op++ {
		if got := ByPoint(op); got != slices.Contains(byPoint, op) {
			t.Error(op, got)
		}
	}
	for _, op := range []int{math.MinInt, math.MaxInt, 1 << 32, 1<<32 + api.Matrix, -1 << 62} {
		if ByPoint(op) {
			t.Error(op)
		}
	}
}

// P15.1: At, of a Flood and a Clip: in the rectangle, at its edges, and far from it.
func TestAtEdges(t *testing.T) {
	p, q, n := api.Px{1, 2, 3, 4}, api.Px{5, 6, 7, 8}, api.Px{}
	flood, clip := none(api.Flood, 1, 2, 3, 4, -2, -1, 3, 5), one(api.Clip, -2, -1, 3, 5)
	for _, x := range []struct {
		x, y   int
		within bool
	}{
		{0, 0, true}, {-2, -1, true}, {2, -1, true}, {-2, 4, true}, {2, 4, true}, {-3, 0, false}, {3, 0, false}, {0, -2, false}, {0, 5, false}, {3, 5, false},
		{far, 0, false}, {0, -far, false}, {math.MaxInt, math.MaxInt, false}, {math.MinInt, math.MinInt, false}, {0, math.MinInt, false}, {math.MaxInt, 0, false},
	} {
		flooded, clipped := n, n
		if x.within {
			flooded, clipped = p, q
		}
		if got := At(flood, nil, x.x, x.y); got != flooded {
			t.Error("Flood", x, got)
		}
		if got := At(clip, []api.Px{q}, x.x, x.y); got != clipped {
			t.Error("Clip", x, got)
		}
	}
	for _, r := range [][]int{{0, 0, 0, 0}, {0, 0, 0, 5}, {0, 0, 5, 0}, {5, 5, 0, 0}, {1, 0, 0, 1}} {
		if got := At(none(api.Flood, append([]int{9, 9, 9, 9}, r...)...), nil, 0, 0); got != n {
			t.Error("Flood", r, got)
		}
		if got := At(one(api.Clip, r...), []api.Px{q}, 0, 0); got != n {
			t.Error("Clip", r, got)
		}
	}
}

// P15.1: boxes of as many points as there may be, square, wide and high.
func TestGreat(t *testing.T) {
	for _, x := range []struct {
		b api.Rect
		n api.Node
	}{
		{of(-2048, -2048, 2048, 2048), one(api.Matrix, drawMatrix(chance())...)},
		{of(-1<<23, 0, 1<<23, 1), two(api.Blend, api.Difference)},
		{of(0, -1<<23, 1, 1<<23), two(api.Composite, api.Xor)},
	} {
		b := x.b
		src := raster.New(b)
		raster.Fill(&src, b, api.Px{10, 200, 3, 250})
		raster.Put(&src, 0, 0, api.Px{9, 20, 2, 25})
		raster.Put(&src, b.X1-1, b.Y1-1, api.Px{9, 0, 255, 255})
		in := slices.Repeat([]api.Buffer{src}, len(x.n.In))
		got := Do(x.n, in, b)
		if got.Box != b || !raster.Right(got) {
			t.Fatal(x.n, got.Box, len(got.Pix))
		}
		for _, p := range [][2]int{{0, 0}, {b.X0, b.Y0}, {b.X1 - 1, b.Y1 - 1}, {b.X0, b.Y1 - 1}, {b.X0 / 3, b.Y0 / 3}, {b.X1 / 2, b.Y0}} {
			if seen, want := raster.At(got, p[0], p[1]), word(x.n, in, p[0], p[1]); seen != want {
				t.Error(x.n, p, seen, want)
			}
		}
	}
}
