package mix

import (
	"math"
	"math/rand"
	"testing"

	"gouache/api"
)

var operators = []int{api.Over, api.In, api.Out, api.Atop, api.Xor, api.Clear}

var modes = []int{api.Normal, api.Multiply, api.Screen, api.Darken, api.Lighten, api.Difference, api.Plus}

// strange are numbers that are no modes and no operators (6 is a mode, but no operator).
var strange = []int{-1, -2, 7, 8, 13, 255, 256, 257, 262, 1 << 32, math.MaxInt, math.MinInt}

// times answers the whole number nearest to x y / 255, of which there is just one.
func times(x, y int) int { return (2*x*y + 255) / 510 }

// within answers n, cut to the numbers from 0 to most.
func within(n, most int) int { return max(0, min(n, most)) }

// composed is P6.1, of one value: a and b, in pixels whose alphas are ca and cb.
func composed(op, a, b, ca, cb int) int {
	return within([...]int{
		api.Over:  a + times(b, 255-ca),
		api.In:    times(a, cb),
		api.Out:   times(a, 255-cb),
		api.Atop:  times(a, cb) + times(b, 255-ca),
		api.Xor:   times(a, 255-cb) + times(b, 255-ca),
		api.Clear: 0,
	}[op], 255)
}

// blended is P6.2, of one colour: a and b, in pixels whose alphas are ca and cb; and alpha.
func blended(mode, a, b, ca, cb int) (colour, alpha int) {
	if mode == api.Normal {
		return composed(api.Over, a, b, ca, cb), composed(api.Over, ca, cb, ca, cb)
	}
	alpha = ca + cb - times(ca, cb)
	if mode == api.Plus {
		alpha = within(ca+cb, 255)
	}
	rest := times(a, 255-cb) + times(b, 255-ca)
	less, greater := times(a, cb), times(b, ca)
	if less > greater {
		less, greater = greater, less
	}
	colour = [...]int{
		api.Multiply:   times(a, b) + rest,
		api.Screen:     a + b - times(a, b),
		api.Darken:     less + rest,
		api.Lighten:    greater + rest,
		api.Difference: a + b - 2*less,
		api.Plus:       a + b,
	}[mode]
	return within(colour, alpha), alpha
}

// wantComposite and wantBlend are what the words ask for, of whole pixels.
func wantComposite(op int, a, b api.Px) (p api.Px) {
	for i := range 4 {
		p[i] = uint8(composed(op, int(a[i]), int(b[i]), int(a[3]), int(b[3])))
	}
	return p
}

func wantBlend(mode int, a, b api.Px) (p api.Px) {
	for i := range 3 {
		c, alpha := blended(mode, int(a[i]), int(b[i]), int(a[3]), int(b[3]))
		p[i], p[3] = uint8(c), uint8(alpha)
	}
	return p
}

func right(p api.Px) bool { return p[0] <= p[3] && p[1] <= p[3] && p[2] <= p[3] }

// pairs calls do with right pixels of all pairs of alphas, whose colours are all, none, next to these, or anything.
func pairs(do func(a, b api.Px)) {
	c := rand.New(rand.NewSource(6))
	colour := func(alpha int) uint8 { return uint8(c.Intn(alpha + 1)) }
	for ca := range 256 {
		for cb := range 256 {
			x, y := uint8(ca), uint8(cb)
			do(api.Px{x, x, 0, x}, api.Px{y, 0, y, y})
			do(api.Px{0, x / 2, x - min(x, 1), x}, api.Px{0, y - y/2, min(y, 1), y})
			for range 3 {
				do(api.Px{colour(ca), colour(ca), colour(ca), x}, api.Px{colour(cb), colour(cb), colour(cb), y})
			}
		}
	}
}

// wrong calls do with pixels of which one, or both, may not be right.
func wrong(do func(a, b api.Px)) {
	c := rand.New(rand.NewSource(66))
	ends := []uint8{0, 1, 127, 128, 254, 255}
	any := func() uint8 {
		if c.Intn(2) == 0 {
			return ends[c.Intn(len(ends))]
		}
		return uint8(c.Intn(256))
	}
	for range 100000 {
		do(api.Px{any(), any(), any(), any()}, api.Px{any(), any(), any(), any()})
	}
}

// P6.1
func TestComposite(t *testing.T) {
	pairs(func(a, b api.Px) {
		for _, op := range operators {
			if got, want := Composite(op, a, b), wantComposite(op, a, b); got != want {
				t.Fatalf("Composite(%d, %v, %v) = %v, want %v", op, a, b, got, want)
			}
		}
	})
}

// P6.1: the example of the chapter, and edges, as numbers.
func TestCompositeExamples(t *testing.T) {
	for _, x := range []struct {
		op         int
		a, b, want api.Px
	}{
		{api.In, api.Px{9, 9, 9, 9}, api.Px{0, 0, 0, 128}, api.Px{5, 5, 5, 5}},
		{api.Over, api.Px{100, 50, 0, 200}, api.Px{30, 60, 90, 100}, api.Px{106, 63, 19, 222}},
		{api.In, api.Px{100, 50, 0, 200}, api.Px{30, 60, 90, 100}, api.Px{39, 20, 0, 78}},
		{api.Out, api.Px{100, 50, 0, 200}, api.Px{30, 60, 90, 100}, api.Px{61, 30, 0, 122}},
		{api.Atop, api.Px{100, 50, 0, 200}, api.Px{30, 60, 90, 100}, api.Px{45, 33, 19, 100}},
		{api.Xor, api.Px{100, 50, 0, 200}, api.Px{30, 60, 90, 100}, api.Px{67, 43, 19, 144}},
		{api.Clear, api.Px{100, 50, 0, 200}, api.Px{30, 60, 90, 100}, api.Px{}},
		// All of both.
		{api.Over, api.Px{1, 2, 3, 255}, api.Px{4, 5, 6, 255}, api.Px{1, 2, 3, 255}},
		{api.In, api.Px{1, 2, 3, 255}, api.Px{4, 5, 6, 255}, api.Px{1, 2, 3, 255}},
		{api.Out, api.Px{1, 2, 3, 255}, api.Px{4, 5, 6, 255}, api.Px{}},
		{api.Atop, api.Px{1, 2, 3, 255}, api.Px{4, 5, 6, 255}, api.Px{1, 2, 3, 255}},
		{api.Xor, api.Px{1, 2, 3, 255}, api.Px{4, 5, 6, 255}, api.Px{}},
		{api.Clear, api.Px{1, 2, 3, 255}, api.Px{4, 5, 6, 255}, api.Px{}},
		// Onto nothing.
		{api.Over, api.Px{1, 2, 3, 4}, api.Px{}, api.Px{1, 2, 3, 4}},
		{api.In, api.Px{1, 2, 3, 4}, api.Px{}, api.Px{}},
		{api.Out, api.Px{1, 2, 3, 4}, api.Px{}, api.Px{1, 2, 3, 4}},
		{api.Atop, api.Px{1, 2, 3, 4}, api.Px{}, api.Px{}},
		{api.Xor, api.Px{1, 2, 3, 4}, api.Px{}, api.Px{1, 2, 3, 4}},
		// Alpha alone is looked at: what is black covers as well.
		{api.Over, api.Px{0, 0, 0, 128}, api.Px{255, 255, 255, 255}, api.Px{127, 127, 127, 255}},
		// Cut to 255: no right pixels come to that.
		{api.Over, api.Px{255, 200, 1, 0}, api.Px{255, 200, 1, 0}, api.Px{255, 255, 2, 0}},
		{api.Xor, api.Px{255, 128, 127, 0}, api.Px{255, 128, 127, 0}, api.Px{255, 255, 254, 0}},
	} {
		if got := Composite(x.op, x.a, x.b); got != x.want {
			t.Errorf("Composite(%d, %v, %v) = %v, want %v", x.op, x.a, x.b, got, x.want)
		}
	}
}

// P6.2
func TestBlend(t *testing.T) {
	pairs(func(a, b api.Px) {
		for _, mode := range modes {
			if got, want := Blend(mode, a, b), wantBlend(mode, a, b); got != want {
				t.Fatalf("Blend(%d, %v, %v) = %v, want %v", mode, a, b, got, want)
			}
		}
	})
}

// P6.2: the example of the chapter, and edges, as numbers.
func TestBlendExamples(t *testing.T) {
	for _, x := range []struct {
		mode       int
		a, b, want api.Px
	}{
		{api.Multiply, api.Px{255, 0, 0, 255}, api.Px{128, 128, 128, 255}, api.Px{128, 0, 0, 255}},
		{api.Normal, api.Px{100, 50, 0, 200}, api.Px{30, 60, 90, 100}, api.Px{106, 63, 19, 222}},
		{api.Multiply, api.Px{100, 50, 0, 200}, api.Px{30, 60, 90, 100}, api.Px{79, 55, 19, 222}},
		{api.Screen, api.Px{100, 50, 0, 200}, api.Px{30, 60, 90, 100}, api.Px{118, 98, 90, 222}},
		{api.Darken, api.Px{100, 50, 0, 200}, api.Px{30, 60, 90, 100}, api.Px{91, 63, 19, 222}},
		{api.Lighten, api.Px{100, 50, 0, 200}, api.Px{30, 60, 90, 100}, api.Px{106, 90, 90, 222}},
		{api.Difference, api.Px{100, 50, 0, 200}, api.Px{30, 60, 90, 100}, api.Px{82, 70, 90, 222}},
		{api.Plus, api.Px{100, 50, 0, 200}, api.Px{30, 60, 90, 100}, api.Px{130, 110, 90, 255}},
		// All of both.
		{api.Normal, api.Px{200, 100, 0, 255}, api.Px{100, 200, 255, 255}, api.Px{200, 100, 0, 255}},
		{api.Multiply, api.Px{200, 100, 0, 255}, api.Px{100, 200, 255, 255}, api.Px{78, 78, 0, 255}},
		{api.Screen, api.Px{200, 100, 0, 255}, api.Px{100, 200, 255, 255}, api.Px{222, 222, 255, 255}},
		{api.Darken, api.Px{200, 100, 0, 255}, api.Px{100, 200, 255, 255}, api.Px{100, 100, 0, 255}},
		{api.Lighten, api.Px{200, 100, 0, 255}, api.Px{100, 200, 255, 255}, api.Px{200, 200, 255, 255}},
		{api.Difference, api.Px{200, 100, 0, 255}, api.Px{100, 200, 255, 255}, api.Px{100, 100, 255, 255}},
		{api.Plus, api.Px{200, 100, 0, 255}, api.Px{100, 200, 255, 255}, api.Px{255, 255, 255, 255}},
		// Difference of a pixel and itself: nothing but alpha, if that is all.
		{api.Difference, api.Px{9, 99, 255, 255}, api.Px{9, 99, 255, 255}, api.Px{0, 0, 0, 255}},
		// Plus, just not cut, and just cut.
		{api.Plus, api.Px{100, 55, 0, 155}, api.Px{100, 45, 0, 100}, api.Px{200, 100, 0, 255}},
		{api.Plus, api.Px{156, 155, 0, 156}, api.Px{100, 100, 0, 100}, api.Px{255, 255, 0, 255}},
		// Colours cut to alpha: no right pixels come to that, but by Plus, where both are cut to 255.
		{api.Multiply, api.Px{9, 0, 0, 0}, api.Px{9, 7, 0, 3}, api.Px{3, 3, 0, 3}},
		{api.Screen, api.Px{200, 0, 0, 5}, api.Px{0, 6, 4, 0}, api.Px{5, 5, 4, 5}},
		{api.Darken, api.Px{200, 0, 0, 5}, api.Px{0, 6, 4, 0}, api.Px{5, 5, 4, 5}},
		{api.Lighten, api.Px{200, 0, 0, 5}, api.Px{0, 6, 4, 0}, api.Px{5, 5, 4, 5}},
		{api.Difference, api.Px{200, 0, 0, 5}, api.Px{0, 6, 4, 0}, api.Px{5, 5, 4, 5}},
		{api.Plus, api.Px{200, 0, 0, 5}, api.Px{200, 8, 7, 2}, api.Px{7, 7, 7, 7}},
		// Normal is Over, which cuts to 255 alone.
		{api.Normal, api.Px{200, 0, 0, 5}, api.Px{0, 6, 4, 0}, api.Px{200, 6, 4, 5}},
	} {
		if got := Blend(x.mode, x.a, x.b); got != x.want {
			t.Errorf("Blend(%d, %v, %v) = %v, want %v", x.mode, x.a, x.b, got, x.want)
		}
	}
}

// P6.3: every opacity.
func TestOnto(t *testing.T) {
	pairs(func(a, b api.Px) {
		opacity := a[0] ^ b[1] ^ a[2]
		var faded api.Px
		for i := range 4 {
			faded[i] = uint8(times(int(a[i]), int(opacity)))
		}
		for _, mode := range modes {
			if got, want := Onto(mode, opacity, a, b), wantBlend(mode, faded, b); got != want {
				t.Fatalf("Onto(%d, %d, %v, %v) = %v, want %v", mode, opacity, a, b, got, want)
			}
		}
	})
}

// P6.3: with an opacity of 255 nothing is faded, with one of 0 all is.
func TestOntoAtTheEnds(t *testing.T) {
	pairs(func(a, b api.Px) {
		for _, mode := range modes {
			if got, want := Onto(mode, 255, a, b), Blend(mode, a, b); got != want {
				t.Fatalf("Onto(%d, 255, %v, %v) = %v, want %v", mode, a, b, got, want)
			}
			if got := Onto(mode, 0, a, b); got != b {
				t.Fatalf("Onto(%d, 0, %v, %v) = %v", mode, a, b, got)
			}
		}
	})
}

// P6.3: as numbers; the pixel on top is faded, not the one below.
func TestOntoExamples(t *testing.T) {
	for _, x := range []struct {
		mode       int
		opacity    uint8
		a, b, want api.Px
	}{
		{api.Normal, 128, api.Px{0, 0, 0, 255}, api.Px{}, api.Px{0, 0, 0, 128}},
		{api.Normal, 128, api.Px{100, 50, 0, 200}, api.Px{}, api.Px{50, 25, 0, 100}},
		{api.Normal, 128, api.Px{}, api.Px{100, 50, 0, 200}, api.Px{100, 50, 0, 200}},
		{api.Normal, 128, api.Px{255, 0, 0, 255}, api.Px{0, 0, 255, 255}, api.Px{128, 0, 127, 255}},
		{api.Plus, 128, api.Px{255, 0, 0, 255}, api.Px{0, 0, 9, 9}, api.Px{128, 0, 9, 137}},
		{api.Multiply, 128, api.Px{0, 0, 0, 255}, api.Px{255, 100, 0, 255}, api.Px{127, 50, 0, 255}},
		{api.Screen, 1, api.Px{127, 128, 0, 255}, api.Px{}, api.Px{0, 1, 0, 1}},
	} {
		if got := Onto(x.mode, x.opacity, x.a, x.b); got != x.want {
			t.Errorf("Onto(%d, %d, %v, %v) = %v, want %v", x.mode, x.opacity, x.a, x.b, got, x.want)
		}
	}
}

// P6.4: what comes of right pixels is right.
func TestRightStaysRight(t *testing.T) {
	pairs(func(a, b api.Px) {
		for _, op := range operators {
			if p := Composite(op, a, b); !right(p) {
				t.Fatalf("Composite(%d, %v, %v) = %v: not right", op, a, b, p)
			}
		}
		for _, mode := range modes {
			if p := Blend(mode, a, b); !right(p) {
				t.Fatalf("Blend(%d, %v, %v) = %v: not right", mode, a, b, p)
			}
			if p := Onto(mode, a[1]^b[0], a, b); !right(p) {
				t.Fatalf("Onto(%d, %d, %v, %v) = %v: not right", mode, a[1]^b[0], a, b, p)
			}
		}
	})
}

// P6.4: nothing on top changes nothing; but with In, Out and Clear nothing is left.
func TestNothingOnTop(t *testing.T) {
	none := api.Px{}
	pairs(func(_, b api.Px) {
		for _, op := range operators {
			want := b
			if op == api.In || op == api.Out || op == api.Clear {
				want = none
			}
			if got := Composite(op, none, b); got != want {
				t.Fatalf("Composite(%d, %v, %v) = %v, want %v", op, none, b, got, want)
			}
		}
		for _, mode := range modes {
			if got := Blend(mode, none, b); got != b {
				t.Fatalf("Blend(%d, %v, %v) = %v", mode, none, b, got)
			}
			if got := Onto(mode, b[0], none, b); got != b {
				t.Fatalf("Onto(%d, %d, %v, %v) = %v", mode, b[0], none, b, got)
			}
		}
	})
}

// P6.4: modes but Normal don't hang on which pixel is on top; Normal does.
func TestEitherOnTop(t *testing.T) {
	pairs(func(a, b api.Px) {
		for _, mode := range modes {
			if mode == api.Normal {
				continue
			}
			if one, other := Blend(mode, a, b), Blend(mode, b, a); one != other {
				t.Fatalf("Blend(%d, %v, %v) = %v, but %v turned about", mode, a, b, one, other)
			}
		}
	})
	a, b := api.Px{255, 0, 0, 255}, api.Px{0, 0, 255, 255}
	if Blend(api.Normal, a, b) != a || Blend(api.Normal, b, a) != b {
		t.Error("Normal doesn't show the pixel on top")
	}
}

// P1: pixels that aren't right are mixed by the same words.
func TestWrongPixels(t *testing.T) {
	wrong(func(a, b api.Px) {
		for _, op := range operators {
			if got, want := Composite(op, a, b), wantComposite(op, a, b); got != want {
				t.Fatalf("Composite(%d, %v, %v) = %v, want %v", op, a, b, got, want)
			}
		}
		for _, mode := range modes {
			if got, want := Blend(mode, a, b), wantBlend(mode, a, b); got != want {
				t.Fatalf("Blend(%d, %v, %v) = %v, want %v", mode, a, b, got, want)
			}
		}
	})
}

// P1: what is no operator or no mode answers nothing.
func TestWrongModes(t *testing.T) {
	a, b := api.Px{100, 50, 0, 200}, api.Px{30, 60, 90, 100}
	for _, n := range append([]int{api.Plus}, strange...) {
		if p := Composite(n, a, b); p != (api.Px{}) {
			t.Errorf("Composite(%d, ..) = %v", n, p)
		}
	}
	for _, n := range strange {
		if p := Blend(n, a, b); p != (api.Px{}) {
			t.Errorf("Blend(%d, ..) = %v", n, p)
		}
		if p := Onto(n, 128, a, b); p != (api.Px{}) {
			t.Errorf("Onto(%d, ..) = %v", n, p)
		}
	}
}

// Rule 5: what is handed in is left as it was.
func TestPixelsAreValues(t *testing.T) {
	a, b := api.Px{100, 50, 0, 200}, api.Px{30, 60, 90, 100}
	for _, n := range modes {
		Composite(n, a, b)
		Blend(n, a, b)
		Onto(n, 9, a, b)
	}
	if a != (api.Px{100, 50, 0, 200}) || b != (api.Px{30, 60, 90, 100}) {
		t.Errorf("changed to %v, %v", a, b)
	}
}
