package tint

import (
	"math"
	"math/big"
	"math/rand"
	"slices"
	"testing"

	"gouache/api"
)

// same is the matrix that changes no right pixel.
func same() []int { return at(256, 0, 6, 12, 18) }

// at answers the matrix that has n in some places, and 0 else.
func at(n int, places ...int) []int {
	m := make([]int, 20)
	for _, i := range places {
		m[i] = n
	}
	return m
}

// nearest answers the whole number nearest to n / by, the greater one of two.
func nearest(n, by int) int { return (2*n + by) / (2 * by) }

// plain and thick are chapter 1's Plain and Thick, as numbers.
func plain(p api.Px) (c [4]int) {
	c[3] = int(p[3])
	for i := range 3 {
		if c[3] > 0 {
			c[i] = min(255, nearest(255*int(p[i]), c[3]))
		}
	}
	return c
}

func thick(c [4]int) api.Px {
	p := api.Px{3: uint8(c[3])}
	for i := range 3 {
		p[i] = uint8(nearest(c[i]*c[3], 255))
	}
	return p
}

// makes is what the words ask for: each row as a fraction, of which the greatest whole number that is no more is
// taken.
func makes(m []int, p api.Px) api.Px {
	of := plain(p)
	var c [4]int
	for i := range c {
		r := m[5*i : 5*i+5]
		sum := r[0]*of[0] + r[1]*of[1] + r[2]*of[2] + r[3]*of[3] + 255*r[4] + 128
		// Div of package big goes down where what it divides by is above 0.
		whole := new(big.Int).Div(big.NewInt(int64(sum)), big.NewInt(256)).Int64()
		c[i] = int(max(0, min(whole, 255)))
	}
	return thick(c)
}

func right(p api.Px) bool { return p[0] <= p[3] && p[1] <= p[3] && p[2] <= p[3] }

// draw answers a matrix: of small numbers, of great ones, of ends, or mixed; its rows reach from below 0 to above 255.
func draw(c *rand.Rand) []int {
	m := make([]int, 20)
	how := c.Intn(5)
	for i := range m {
		switch {
		case how == 0:
			m[i] = c.Intn(513) - 256
		case how == 1:
			m[i] = c.Intn(65536) - 32768
		case how == 2:
			m[i] = []int{-32768, 32767, 0, -1, 1}[c.Intn(5)]
		case how == 3:
			m[i] = c.Intn(129) - 32
		case c.Intn(3) == 0:
			m[i] = c.Intn(2049) - 1024
		}
	}
	return m
}

// pixel answers a right pixel, often one of an end.
func pixel(c *rand.Rand) api.Px {
	alpha := c.Intn(256)
	switch c.Intn(8) {
	case 0:
		alpha = 0
	case 1:
		alpha = 255
	case 2:
		alpha = 1
	}
	colour := func() uint8 {
		switch c.Intn(6) {
		case 0:
			return 0
		case 1:
			return uint8(alpha)
		}
		return uint8(c.Intn(alpha + 1))
	}
	return api.Px{colour(), colour(), colour(), uint8(alpha)}
}

// P7.1: Right, each place at its ends and just beyond them.
func TestRight(t *testing.T) {
	if !Right(make([]int, 20)) || !Right(same()) {
		t.Error("a matrix isn't right")
	}
	for i := range 20 {
		for _, n := range []int{-32768, -32767, -1, 0, 1, 256, 32766, 32767} {
			if !Right(at(n, i)) {
				t.Errorf("%d at %d isn't right", n, i)
			}
		}
		for _, n := range []int{-32769, 32768, 65536, -65536, 1 << 32, 1<<32 + 1, -1 << 40, math.MaxInt, math.MinInt} {
			if Right(at(n, i)) {
				t.Errorf("%d at %d is right", n, i)
			}
		}
	}
}

// P7.1: Right of lists of other lengths.
func TestRightLengths(t *testing.T) {
	if Right(nil) || Right([]int{}) {
		t.Error("no numbers are a matrix")
	}
	for n := range 64 {
		if got, want := Right(make([]int, n)), n == 20; got != want {
			t.Errorf("%d numbers: %v", n, got)
		}
	}
	// Spare room is no part of a list.
	if m := make([]int, 19, 20); Right(m) {
		t.Error("spare room is counted")
	}
}

// P7.1: Pixel, against the words.
func TestPixel(t *testing.T) {
	c := rand.New(rand.NewSource(7))
	for range 300000 {
		m, p := draw(c), pixel(c)
		if got, want := Pixel(m, p), makes(m, p); got != want {
			t.Fatalf("Pixel(%v, %v) = %v, want %v", m, p, got, want)
		}
	}
}

// P7.1: the example of the chapter, and edges, as numbers.
func TestPixelExamples(t *testing.T) {
	whole := api.Px{100, 150, 200, 255}
	for _, x := range []struct {
		name    string
		m       []int
		p, want api.Px
	}{
		{"red, green and blue are alpha", at(256, 3, 8, 13, 18), api.Px{0, 0, 0, 128}, api.Px{64, 64, 64, 128}},
		{"all 0", at(0), whole, api.Px{}},
		{"all 0 but alpha", at(256, 18), whole, api.Px{0, 0, 0, 255}},
		// Colours that are turned round, by places out of their own.
		{"round", at(256, 1, 7, 10, 18), whole, api.Px{150, 200, 100, 255}},
		{"round, plain", at(256, 1, 7, 10, 18), api.Px{0, 64, 128, 128}, api.Px{64, 128, 0, 128}},
		// The last of a row is added to whatever the pixel is: so many 256ths of 255.
		{"added", at(128, 4, 9, 14, 19), whole, api.Px{64, 64, 64, 128}},
		{"added to nothing", at(256, 4, 19), api.Px{}, api.Px{255, 0, 0, 255}},
		{"added to nothing, without alpha", at(256, 4, 9, 14), api.Px{}, api.Px{}},
		// Of 255: 1 is 383 / 256, 2 is 638 / 256, 255 is 65153 / 256.
		{"1 of 256 added", at(1, 19), api.Px{}, api.Px{0, 0, 0, 1}},
		{"2 of 256 added", at(2, 19), api.Px{}, api.Px{0, 0, 0, 2}},
		{"255 of 256 added", at(255, 19), api.Px{}, api.Px{0, 0, 0, 254}},
		// The half: of alpha 1, 127 and 128 of 256; 1 + 128 and below 0 by as much.
		{"just below the half", at(127, 18), api.Px{0, 0, 0, 1}, api.Px{}},
		{"the half", at(128, 18), api.Px{0, 0, 0, 1}, api.Px{0, 0, 0, 1}},
		// Cut at both ends.
		{"cut below", at(-256, 0, 6, 12, 18), whole, api.Px{}},
		{"cut above", at(512, 0, 6, 12, 18), whole, api.Px{200, 255, 255, 255}},
		{"far below", at(-32768, 0, 1, 2, 3, 4, 18), api.Px{255, 255, 255, 255}, api.Px{}},
		{"far above", at(32767, 0, 1, 2, 3, 4, 18), api.Px{255, 255, 255, 255}, api.Px{255, 0, 0, 255}},
		// An alpha that is less makes all of the pixel less; plain colours stay.
		{"half of alpha", append(at(256, 0, 6, 12)[:18:18], 128, 0), api.Px{200, 100, 0, 200}, api.Px{100, 50, 0, 100}},
		// Of a pixel without alpha plain colours are 0.
		{"no alpha", at(256, 0, 6, 12, 19), api.Px{}, api.Px{0, 0, 0, 255}},
	} {
		if got := Pixel(x.m, x.p); got != x.want {
			t.Errorf("%s: Pixel(%v, %v) = %v, want %v", x.name, x.m, x.p, got, x.want)
		}
	}
}

// P7.1: the greatest whole number that is no more, where parts of a row are below 0: 255 less alpha, and nearly.
func TestPixelOfLess(t *testing.T) {
	m := at(-256, 18)
	m[19] = 256
	for alpha := range 256 {
		if p := Pixel(m, api.Px{3: uint8(alpha)}); p != (api.Px{3: uint8(255 - alpha)}) {
			t.Errorf("of alpha %d: %v", alpha, p)
		}
	}
	// 255 - 1.5: 253.5 and the half of one is 254; 255 - 1.50390625 is 253.49609375 and so 253.
	m[18] = -128
	if p := Pixel(m, api.Px{3: 3}); p[3] != 254 {
		t.Errorf("by -128: %v", p)
	}
	m[18] = -129
	if p := Pixel(m, api.Px{3: 3}); p[3] != 253 {
		t.Errorf("by -129: %v", p)
	}
}

// P7.1: each of the twenty works in its own row and column.
func TestPixelPlaces(t *testing.T) {
	p := api.Px{10, 60, 110, 255}
	parts := [5]uint8{10, 60, 110, 255, 255}
	for i := range 20 {
		m := at(256, i)
		m[19] = 256 // alpha is all, so that colours are to be seen
		want := api.Px{0, 0, 0, 255}
		if i/5 < 3 {
			want[i/5] = parts[i%5]
		}
		if got := Pixel(m, p); got != want {
			t.Errorf("256 at %d: %v, want %v", i, got, want)
		}
		if i/5 < 3 {
			continue
		}
		if got, want := Pixel(at(256, i), p), (api.Px{3: parts[i%5]}); got != want {
			t.Errorf("256 at %d alone: %v, want %v", i, got, want)
		}
	}
}

// P7.1: Calm, against what Pixel's words say of nothing.
func TestCalm(t *testing.T) {
	c := rand.New(rand.NewSource(77))
	for range 20000 {
		m := draw(c)
		if got, want := Calm(m), makes(m, api.Px{}) == (api.Px{}); got != want {
			t.Fatalf("Calm(%v) = %v", m, got)
		}
	}
}

// P7.1: Calm hangs on what is added to alpha: where that is nothing, no colour is left.
func TestCalmExamples(t *testing.T) {
	for n, want := range map[int]bool{-32768: true, -256: true, -1: true, 0: true, 1: false, 2: false, 256: false, 32767: false} {
		if got := Calm(at(n, 19)); got != want {
			t.Errorf("%d is added to alpha: %v", n, got)
		}
		m := at(32767, 0, 1, 2, 3, 4, 5, 6, 7, 8, 9, 10, 11, 12, 13, 14, 15, 16, 17, 18)
		m[19] = n
		if got := Calm(m); got != want {
			t.Errorf("%d is added to alpha, and all else is 32767: %v", n, got)
		}
	}
	if !Calm(same()) || !Calm(at(0)) || !Calm(at(256, 3, 8, 13, 18)) {
		t.Error("a calm matrix isn't")
	}
}

// P7.2: what it makes is right.
func TestMadeIsRight(t *testing.T) {
	c := rand.New(rand.NewSource(777))
	for range 100000 {
		m, p := draw(c), pixel(c)
		if q := Pixel(m, p); !right(q) {
			t.Fatalf("Pixel(%v, %v) = %v: not right", m, p, q)
		}
	}
}

// P7.2: the matrix that changes nothing, at each alpha and each colour.
func TestSame(t *testing.T) {
	m := same()
	for alpha := range 256 {
		for colour := range alpha + 1 {
			x := uint8(colour)
			for _, p := range []api.Px{
				{x, 0, uint8(alpha), uint8(alpha)},
				{uint8(alpha), x, 0, uint8(alpha)},
				{0, uint8(alpha), x, uint8(alpha)},
				{x, x, x, uint8(alpha)},
			} {
				if got := Pixel(m, p); got != p {
					t.Fatalf("%v is changed to %v", p, got)
				}
			}
		}
	}
}

// P7.3: what is handed in stays, its spare room too.
func TestStays(t *testing.T) {
	c := rand.New(rand.NewSource(7777))
	for range 200 {
		room := append(draw(c), draw(c)...)
		was := slices.Clone(room)
		for _, n := range []int{0, 1, 19, 20, 21, 40} {
			m, p := room[:n], pixel(c)
			before := p
			Right(m)
			Pixel(m, p)
			Calm(m)
			if p != before || !slices.Equal(room, was) {
				t.Fatalf("%v is changed to %v, %v to %v", was, room, before, p)
			}
		}
	}
}

// P1: of what is no matrix, and of pixels that aren't right, calls answer all the same.
func TestWrong(t *testing.T) {
	long := append(same(), 0)
	for _, m := range [][]int{nil, {}, same()[:1], same()[:5], same()[:19], long, at(32768, 3), at(-32769, 0),
		at(math.MaxInt, 0, 1, 2, 3, 4), at(math.MinInt, 4, 18)} {
		if p := Pixel(m, api.Px{1, 2, 3, 4}); p != (api.Px{}) {
			t.Errorf("Pixel(%v, ..) = %v", m, p)
		}
		if Calm(m) {
			t.Errorf("Calm(%v)", m)
		}
	}
	c := rand.New(rand.NewSource(77777))
	for range 20000 {
		m, p := draw(c), api.Px{uint8(c.Intn(256)), uint8(c.Intn(256)), uint8(c.Intn(256)), uint8(c.Intn(256))}
		if got, want := Pixel(m, p), makes(m, p); got != want {
			t.Fatalf("Pixel(%v, %v) = %v, want %v", m, p, got, want)
		}
	}
}
