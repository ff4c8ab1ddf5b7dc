package tone

import (
	"math"
	"testing"

	"gouache/api"
)

// eachPair calls do with all pairs of tones.
func eachPair(do func(a, b uint8)) {
	for a := range 256 {
		for b := range 256 {
			do(uint8(a), uint8(b))
		}
	}
}

// nearest looks through all tones for the one nearest to num / den, the greater one of two: the promises' words,
// with nothing of the program's arithmetic.
func nearest(num, den int) uint8 {
	best, least := 0, math.MaxInt
	for n := range 256 {
		off := n*den - num
		if off < 0 {
			off = -off
		}
		if off <= least {
			best, least = n, off
		}
	}
	return uint8(best)
}

// P1.1
func TestMulIsTheNearest(t *testing.T) {
	eachPair(func(a, b uint8) {
		got := Mul(a, b)
		if want := nearest(int(a)*int(b), 255); got != want {
			t.Errorf("Mul(%d, %d) = %d, want %d", a, b, got, want)
		}
		if off := 255*int(got) - int(a)*int(b); 2*off >= 255 || 2*off <= -255 {
			t.Errorf("Mul(%d, %d) = %d: another tone is as near", a, b, got)
		}
	})
}

// P1.1
func TestMulExamples(t *testing.T) {
	for _, x := range [][3]uint8{
		{128, 128, 64}, {255, 7, 7}, {7, 255, 7}, {0, 0, 0}, {0, 255, 0}, {255, 0, 0}, {255, 255, 255},
		{1, 127, 0}, {1, 128, 1}, {254, 254, 253}, {1, 1, 0},
	} {
		if got := Mul(x[0], x[1]); got != x[2] {
			t.Errorf("Mul(%d, %d) = %d, want %d", x[0], x[1], got, x[2])
		}
	}
}

// P1.1
func TestDivIsTheNearest(t *testing.T) {
	eachPair(func(c, a uint8) {
		want := uint8(0)
		if a != 0 {
			want = nearest(255*int(c), int(a))
		}
		if got := Div(c, a); got != want {
			t.Errorf("Div(%d, %d) = %d, want %d", c, a, got, want)
		}
	})
}

// P1.1
func TestDivExamples(t *testing.T) {
	for _, x := range [][3]uint8{
		{64, 128, 128},
		// By nothing.
		{5, 0, 0}, {0, 0, 0}, {255, 0, 0},
		// More than 255.
		{9, 3, 255}, {255, 1, 255}, {255, 254, 255}, {2, 1, 255},
		// Just 255, and just below it.
		{9, 9, 255}, {255, 255, 255}, {254, 255, 254}, {253, 254, 254},
		// Between two: 127 1/2, 63 3/4, 191 1/4, 25 1/2, 12 3/4.
		{1, 2, 128}, {1, 4, 64}, {3, 4, 191}, {1, 10, 26}, {1, 20, 13},
		{0, 1, 0}, {0, 255, 0}, {1, 255, 1},
	} {
		if got := Div(x[0], x[1]); got != x[2] {
			t.Errorf("Div(%d, %d) = %d, want %d", x[0], x[1], got, x[2])
		}
	}
}

// P1.1
func TestCut(t *testing.T) {
	for n := range 256 {
		if got := Cut(n); int(got) != n {
			t.Errorf("Cut(%d) = %d", n, got)
		}
	}
	for _, n := range []int{-1, -2, -255, -256, -257, -1 << 32, math.MinInt32, math.MinInt + 1, math.MinInt} {
		if got := Cut(n); got != 0 {
			t.Errorf("Cut(%d) = %d, want 0", n, got)
		}
	}
	for _, n := range []int{256, 257, 511, 512, 1 << 16, 1 << 32, math.MaxInt32, math.MaxInt - 1, math.MaxInt} {
		if got := Cut(n); got != 255 {
			t.Errorf("Cut(%d) = %d, want 255", n, got)
		}
	}
}

// P1.2
func TestRight(t *testing.T) {
	for _, p := range []api.Px{
		{}, {0, 0, 0, 255}, {255, 255, 255, 255}, {10, 20, 30, 40}, {40, 40, 40, 40}, {1, 0, 0, 1}, {0, 0, 0, 1},
	} {
		if !Right(p) {
			t.Errorf("Right(%v) = false", p)
		}
	}
	for _, p := range []api.Px{
		{1, 0, 0, 0}, {0, 1, 0, 0}, {0, 0, 1, 0}, {255, 255, 255, 0}, {41, 20, 30, 40}, {10, 41, 30, 40},
		{10, 20, 41, 40}, {255, 0, 0, 254}, {0, 255, 0, 254}, {0, 0, 255, 254},
	} {
		if Right(p) {
			t.Errorf("Right(%v) = true", p)
		}
	}
}

// P1.2: each colour alone is held against alpha.
func TestRightOfEachColour(t *testing.T) {
	eachPair(func(c, a uint8) {
		for i := range 3 {
			p := api.Px{3: a}
			p[i] = c
			if got := Right(p); got != (c <= a) {
				t.Errorf("Right(%v) = %t", p, got)
			}
		}
	})
}

// P1.2
func TestScale(t *testing.T) {
	for _, x := range []struct {
		p    api.Px
		by   uint8
		want api.Px
	}{
		{api.Px{10, 20, 30, 40}, 128, api.Px{5, 10, 15, 20}},
		{api.Px{0, 0, 0, 255}, 128, api.Px{0, 0, 0, 128}},
		{api.Px{10, 20, 30, 40}, 0, api.Px{}},
		{api.Px{1, 127, 128, 255}, 1, api.Px{0, 0, 1, 1}},
		{api.Px{255, 254, 200, 100}, 254, api.Px{254, 253, 199, 100}},
		// Not right.
		{api.Px{200, 100, 50, 0}, 128, api.Px{100, 50, 25, 0}},
	} {
		if got := Scale(x.p, x.by); got != x.want {
			t.Errorf("Scale(%v, %d) = %v, want %v", x.p, x.by, got, x.want)
		}
	}
}

// P1.2: each of the four is multiplied by itself, whatever stands beside it.
func TestScaleOfEachOne(t *testing.T) {
	eachPair(func(c, by uint8) {
		for i := range 4 {
			p := api.Px{255, 255, 255, 255}
			p[i] = c
			want := api.Px{by, by, by, by}
			want[i] = Mul(c, by)
			if got := Scale(p, by); got != want {
				t.Errorf("Scale(%v, %d) = %v, want %v", p, by, got, want)
			}
		}
	})
}

// P1.2
func TestPlain(t *testing.T) {
	for _, x := range [][2]api.Px{
		{{64, 0, 0, 128}, {128, 0, 0, 128}},
		{{}, {}},
		{{1, 2, 3, 255}, {1, 2, 3, 255}},
		{{0, 1, 2, 2}, {0, 128, 255, 2}},
		{{30, 20, 10, 100}, {77, 51, 26, 100}},
		// Not right.
		{{1, 128, 255, 0}, {}},
		{{200, 100, 99, 100}, {255, 255, 252, 100}},
	} {
		if got := Plain(x[0]); got != x[1] {
			t.Errorf("Plain(%v) = %v, want %v", x[0], got, x[1])
		}
	}
}

// P1.2
func TestThick(t *testing.T) {
	for _, x := range [][2]api.Px{
		{{255, 128, 0, 100}, {100, 50, 0, 100}},
		{{128, 0, 0, 128}, {64, 0, 0, 128}},
		{{}, {}},
		{{1, 2, 3, 255}, {1, 2, 3, 255}},
		{{255, 128, 127, 1}, {1, 1, 0, 1}},
		{{255, 255, 255, 0}, {}},
		{{10, 20, 30, 40}, {2, 3, 5, 40}},
	} {
		if got := Thick(x[0]); got != x[1] {
			t.Errorf("Thick(%v) = %v, want %v", x[0], got, x[1])
		}
	}
}

// P1.2: Plain and Thick go colour by colour, and leave alpha.
func TestPlainAndThickOfEachColour(t *testing.T) {
	eachPair(func(c, a uint8) {
		for i := range 3 {
			p := api.Px{3: a}
			p[i] = c
			plain, thick := api.Px{3: a}, api.Px{3: a}
			plain[i], thick[i] = Div(c, a), Mul(c, a)
			if got := Plain(p); got != plain {
				t.Errorf("Plain(%v) = %v, want %v", p, got, plain)
			}
			if got := Thick(p); got != thick {
				t.Errorf("Thick(%v) = %v, want %v", p, got, thick)
			}
		}
	})
}

// P1.3: Scale of right pixels is right; it is enough that Mul never turns two tones about.
func TestScaleKeepsRight(t *testing.T) {
	eachPair(func(a, by uint8) {
		for c := range int(a) + 1 {
			p := api.Px{uint8(c), a - uint8(c), a, a}
			if got := Scale(p, by); !Right(got) {
				t.Errorf("Scale(%v, %d) = %v: not right", p, by, got)
			}
		}
	})
}

// P1.3: Thick of any pixel is right, of those that aren't too.
func TestThickIsRight(t *testing.T) {
	eachPair(func(c, a uint8) {
		p := api.Px{c, 255 - c, 255, a}
		if got := Thick(p); !Right(got) {
			t.Errorf("Thick(%v) = %v: not right", p, got)
		}
	})
}

// P1.3: Scale by 255 changes nothing, be the pixel right or not.
func TestScaleByAllChangesNothing(t *testing.T) {
	eachPair(func(c, a uint8) {
		p := api.Px{c, 255 - c, c / 2, a}
		if got := Scale(p, 255); got != p {
			t.Errorf("Scale(%v, 255) = %v", p, got)
		}
	})
}

// P1.3: Thick undoes Plain at right pixels.
func TestThickOfPlain(t *testing.T) {
	eachPair(func(c, a uint8) {
		if c > a {
			return
		}
		p := api.Px{c, a - c, a, a}
		if got := Thick(Plain(p)); got != p {
			t.Errorf("Thick(Plain(%v)) = %v", p, got)
		}
	})
}

// Rule 5: what is handed in is left as it was.
func TestPixelsAreValues(t *testing.T) {
	p := api.Px{10, 20, 30, 40}
	Scale(p, 9)
	Plain(p)
	Thick(p)
	if p != (api.Px{10, 20, 30, 40}) {
		t.Errorf("changed to %v", p)
	}
}
