package kernel

import (
	"math"
	"math/rand"
	"slices"
	"testing"

	"gouache/api"
	"gouache/node"
	"gouache/raster"
	"gouache/rect"
)

// roomy answers a list of the same, in memory of its own, with room behind it that has spare in it.
func roomy[T any](l []T, spare T) []T { return append(slices.Clone(l), spare)[:len(l)] }

// hasRoom says whether a list made by roomy is what it was, and its room too.
func hasRoom[T comparable](l, was []T, spare T) bool {
	return slices.Equal(l, was) && l[:len(l)+1][len(l)] == spare
}

// args is a node and its inputs, as buffers and as pixels, all lists with room behind them.
type args struct {
	n  api.Node
	in []api.Buffer
	px []api.Px
}

// copied answers these as args.
func copied(n api.Node, in []api.Buffer, px []api.Px) args {
	made := args{n: api.Node{Op: n.Op, In: roomy(n.In, 77), P: roomy(n.P, 78)}, px: roomy(px, grey(79))}
	for _, b := range in {
		made.in = append(made.in, api.Buffer{Box: b.Box, Pix: roomy(b.Pix, grey(80))})
	}
	made.in = roomy(made.in, api.Buffer{Box: of(1, 1, 2, 2), Pix: []api.Px{grey(81)}})
	return made
}

// alike says whether args are what they were when they were copied.
func (a args) alike(n api.Node, in []api.Buffer, px []api.Px) bool {
	spare := a.in[:len(a.in)+1][len(a.in)]
	return a.n.Op == n.Op && hasRoom(a.n.In, n.In, 77) && hasRoom(a.n.P, n.P, 78) && hasRoom(a.px, px, grey(79)) &&
		slices.EqualFunc(a.in, in, func(b, was api.Buffer) bool { return b.Box == was.Box && hasRoom(b.Pix, was.Pix, grey(80)) }) &&
		spare.Box == of(1, 1, 2, 2) && slices.Equal(spare.Pix, []api.Px{grey(81)})
}

// spoil writes over all of an answer, and over the room behind it.
func spoil(b api.Buffer) {
	for i := range b.Pix[:cap(b.Pix)] {
		b.Pix[:cap(b.Pix)][i] = grey(99)
	}
}

// P15.3: what is handed in stays, spare room too; what is answered is new memory.
func TestStays(t *testing.T) {
	c := chance()
	for range 300 {
		for op := 1; op <= 12; op++ {
			n, in := drawNode(t, c, op, 0, 0)
			px := make([]api.Px, len(in))
			for i := range px {
				px[i] = drawPixel(c)
			}
			a, b := copied(n, in, px), box(c, 0, 0)
			if len(in) > 0 && c.Intn(2) == 0 {
				b = in[0].Box
			}
			first := Do(a.n, a.in, b)
			told := slices.Clone(first.Pix)
			again := Do(a.n, a.in, b)
			spoil(first)
			if !slices.Equal(again.Pix, told) {
				t.Fatalf("Do(%v, %v, %v): %v, then %v", n, in, b, told, again)
			}
			spoil(again)
			At(a.n, a.px, 0, 0)
			if !a.alike(n, in, px) {
				t.Fatalf("Do(%v, %v, %v) leaves %v", n, in, b, a)
			}
			// What is answered stays too, when what was handed in is written over.
			third := Do(a.n, a.in, b)
			for _, b := range a.in {
				spoil(b)
			}
			if !slices.Equal(third.Pix, told) {
				t.Fatalf("Do(%v, %v, %v) keeps what was handed in", n, in, b)
			}
		}
	}
}

// P15.3: what would change nothing is new memory too.
func TestStaysSame(t *testing.T) {
	src := row(0, grey(1), grey(2), grey(3))
	for _, n := range []api.Node{
		one(api.Offset, 0, 0), one(api.Blur, 0, 0), one(api.Erode, 0, 0), one(api.Dilate, 0, 0), one(api.Matrix, matrix(0, 256, 6, 256, 12, 256, 18, 256)...),
		one(api.Merge), one(api.Tile, 0, 0, 3, 1), one(api.Shadow, 0, 0, 0, 0, 0, 0, 0, 0), one(api.Clip, 0, 0, 3, 1),
	} {
		got := Do(n, []api.Buffer{src}, src.Box)
		if !same(got, src) {
			t.Error(n, got)
		}
		spoil(got)
		if !slices.Equal(src.Pix, []api.Px{grey(1), grey(2), grey(3)}) {
			t.Fatal(n, "shares memory with what was handed in")
		}
	}
}

// One buffer may be all inputs of a node.
func TestOneForAll(t *testing.T) {
	c := chance()
	for range 100 {
		for _, op := range []int{api.Blend, api.Composite, api.Merge} {
			n, _ := drawNode(t, c, op, 0, 0)
			in := slices.Repeat([]api.Buffer{picture(c, box(c, 0, 0))}, len(n.In))
			holds(t, n, in, box(c, 0, 0))
		}
	}
}

// odd answers a number of any sort.
func odd(c *rand.Rand) int {
	return []int{c.Intn(5) - 2, c.Intn(600) - 300, far, -far, far + 1, 1 << 20, math.MaxInt, math.MinInt, math.MinInt + 1, int(c.Uint64())}[c.Intn(10)]
}

// oddList answers numbers of any sort, as many as it may be.
func oddList(c *rand.Rand, most int) []int {
	var l []int
	for range c.Intn(most + 1) {
		l = append(l, odd(c))
	}
	return l
}

// oddBuffer answers a buffer that may have any box, with as many pixels as it may be.
func oddBuffer(c *rand.Rand) api.Buffer {
	b := picture(c, box(c, 0, 0))
	if c.Intn(2) == 0 {
		b.Box = of(odd(c), odd(c), odd(c), odd(c))
	}
	if c.Intn(3) == 0 {
		b.Pix = b.Pix[:c.Intn(len(b.Pix)+1)]
	}
	for i := range b.Pix {
		if c.Intn(9) == 0 {
			b.Pix[i] = api.Px{uint8(c.Intn(256)), uint8(c.Intn(256)), uint8(c.Intn(256)), uint8(c.Intn(256))}
		}
	}
	return b
}

// oddBox answers a box that may have any edges, but isn't one that is merely great: what it would ask for is memory.
func oddBox(c *rand.Rand) api.Rect {
	for {
		b := of(odd(c), odd(c), odd(c), odd(c))
		if n := rect.Area(rect.Meet(b, rect.All())); n < 1<<19 || n > 1<<30 {
			return b
		}
	}
}

// Of what is wrong nothing is promised, but that calls end without a panic; Do answers a right buffer all the same.
func TestWrong(t *testing.T) {
	c := chance()
	for range 20000 {
		n := api.Node{Op: c.Intn(15) - 1, In: oddList(c, 3), P: oddList(c, 21)}
		var in []api.Buffer
		var px []api.Px
		for range c.Intn(4) {
			in = append(in, oddBuffer(c))
			px = append(px, api.Px{uint8(c.Intn(256)), uint8(c.Intn(256)), uint8(c.Intn(256)), uint8(c.Intn(256))})
		}
		b := box(c, 0, 0)
		if c.Intn(4) == 0 {
			b = oddBox(c)
		}
		if got := Do(n, in, b); !raster.Right(got) {
			t.Fatal(n, in, b, got)
		}
		At(n, px, odd(c), odd(c))
	}
}

// What is of no kind makes nothing; so does At of what doesn't go point by point.
func TestWrongKind(t *testing.T) {
	c := chance()
	b := of(-1, -2, 3, 1)
	nothing := api.Buffer{Box: b, Pix: make([]api.Px, 12)}
	in, px := []api.Buffer{picture(c, b), picture(c, b)}, []api.Px{grey(5), grey(6)}
	p := []int{1, 1, 1, 1, 1, 1, 1, 1}
	for _, op := range []int{0, -1, 13, math.MinInt, math.MaxInt} {
		if got := Do(two(op, p...), in, b); !same(got, nothing) {
			t.Error(op, got)
		}
		if got := At(two(op, p...), px, 1, 1); got != (api.Px{}) {
			t.Error(op, got)
		}
	}
	for op := range 13 {
		if got := At(two(op, p...), px, 0, 0); !slices.Contains(byPoint, op) && got != (api.Px{}) {
			t.Error(op, got)
		}
	}
}

// Inputs and parameters that a node lacks are nothing, and 0; a matrix that is none makes nothing.
func TestWrongLacks(t *testing.T) {
	c := chance()
	b := of(-1, -2, 3, 1)
	for op := 1; op <= 12; op++ {
		least, _, count, _ := node.Arity(op)
		n, _ := drawNode(t, c, op, 0, 0)
		in := drawInputs(c, least, 0, 0)
		for k := range in {
			whole := slices.Concat(in[:k], make([]api.Buffer, least-k))
			if got, want := Do(n, in[:k], b), Do(n, whole, b); !same(got, want) {
				t.Error(n, k, got, want)
			}
			if got, want := At(n, at(in[:k], 0, 0), 0, 0), At(n, at(whole, 0, 0), 0, 0); got != want {
				t.Error(n, k, got, want)
			}
		}
		for k := range count {
			short, whole := n, n
			short.P, whole.P = n.P[:k], slices.Concat(n.P[:k], make([]int, count-k))
			if op == api.Matrix {
				whole.P = matrix()
			}
			if got, want := Do(short, in, b), Do(whole, in, b); !same(got, want) {
				t.Error(short, got, want)
			}
			if got, want := At(short, at(in, 0, 0), 0, 0), At(whole, at(in, 0, 0), 0, 0); got != want {
				t.Error(short, got, want)
			}
		}
	}
}
