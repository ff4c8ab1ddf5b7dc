package vec

import (
	"math"
	"math/cmplx"
	"testing"
)

// far is how far places go, on either side of 0.
const far = 1 << 40

// long is the greatest side of a picture.
const long = 1 << 20

// reaches are parts of places: ordinary ones, and the edges.
var reaches = []int{-far, -far + 1, -long, -7, -1, 0, 1, 2, 3, 1000, long - 1, long, far - 1, far}

// sides are sides of pictures: ordinary ones, and the edges.
var sides = []int{1, 2, 3, 5, 4096, long - 1, long}

// counts are counts of quarters, each with what is left of it when fours are taken away.
var counts = [][2]int{
	{0, 0}, {1, 1}, {2, 2}, {3, 3}, {4, 0}, {5, 1}, {6, 2}, {7, 3}, {8, 0},
	{-1, 3}, {-2, 2}, {-3, 1}, {-4, 0}, {-5, 3}, {-8, 0}, {-9, 3},
	{1 << 40, 0}, {1<<40 + 1, 1}, {-1<<40 - 1, 3}, {1<<53 + 1, 1}, {-1<<53 - 1, 3},
	{math.MaxInt, 3}, {math.MaxInt - 1, 2}, {math.MinInt, 0}, {math.MinInt + 1, 1},
}

// turned turns two whole numbers quarter by quarter, without complex numbers.
func turned(x, y, quarters int) (int, int) {
	for range quarters {
		x, y = -y, x
	}
	return x, y
}

// model does what the chapter's words say: it turns middles (in half pixels) of pixels about the corner, and moves
// all by the least of those of the picture. It looks at the picture's four corner pixels alone: between them lie all.
func model(w, h, quarters int) (to func(u, v int) (int, int), width, height int) {
	left, up, right, down := math.MaxInt, math.MaxInt, math.MinInt, math.MinInt
	for _, u := range []int{0, w - 1} {
		for _, v := range []int{0, h - 1} {
			x, y := turned(2*u+1, 2*v+1, quarters)
			left, up, right, down = min(left, x), min(up, y), max(right, x), max(down, y)
		}
	}
	to = func(u, v int) (int, int) {
		x, y := turned(2*u+1, 2*v+1, quarters)
		return (x - left) / 2, (y - up) / 2
	}
	return to, (right-left)/2 + 1, (down-up)/2 + 1
}

// eachPicture calls do with all sides, counts of quarters and what is left of them.
func eachPicture(do func(w, h, k, quarters int)) {
	for _, w := range sides {
		for _, h := range sides {
			for _, k := range counts {
				do(w, h, k[0], k[1])
			}
		}
	}
}

// eachPlace calls do with all pairs of reaches.
func eachPlace(do func(x, y int)) {
	for _, x := range reaches {
		for _, y := range reaches {
			do(x, y)
		}
	}
}

// P2.1
func TestOfAndParts(t *testing.T) {
	eachPlace(func(x, y int) {
		v := Of(x, y)
		if real(v) != float64(x) || imag(v) != float64(y) {
			t.Errorf("Of(%d, %d) = %v", x, y, v)
		}
		if gx, gy := Parts(v); gx != x || gy != y {
			t.Errorf("Parts(Of(%d, %d)) = %d, %d", x, y, gx, gy)
		}
	})
	if x, y := Parts(complex(-3, 12)); x != -3 || y != 12 {
		t.Errorf("Parts(-3+12i) = %d, %d", x, y)
	}
}

// P2.1
func TestTurnExamples(t *testing.T) {
	for k, want := range []complex128{Of(3, 1), Of(-1, 3), Of(-3, -1), Of(1, -3), Of(3, 1)} {
		if got := Turn(Of(3, 1), k); got != want {
			t.Errorf("Turn(Of(3, 1), %d) = %v, want %v", k, got, want)
		}
	}
	if got := Turn(Of(1, 0), 1); got != Of(0, 1) {
		t.Errorf("what lay to the right lies at %v, not below", got)
	}
	if got := Turn(Of(1, 0), -1); got != Of(0, -1) {
		t.Errorf("what lay to the right, turned back, lies at %v, not above", got)
	}
}

// P2.1: by any k.
func TestTurn(t *testing.T) {
	for _, k := range counts {
		eachPlace(func(x, y int) {
			wx, wy := turned(x, y, k[1])
			if got := Turn(Of(x, y), k[0]); got != Of(wx, wy) {
				t.Errorf("Turn(Of(%d, %d), %d) = %v, want %v", x, y, k[0], got, Of(wx, wy))
			}
		})
	}
}

// P2.1: to turn by k below 0 is to multiply by the opposite of the imaginary unit, -k times.
func TestTurnBack(t *testing.T) {
	v := Of(5, -far)
	for k := range 9 {
		if got := Turn(Of(5, -far), -k); got != v {
			t.Errorf("Turn(.., %d) = %v, want %v", -k, got, v)
		}
		v *= -1i
	}
}

// P2.1: a place of 0 has one form, so that places which are the same look the same.
func TestTurnLeavesNoMinusAheadOfZero(t *testing.T) {
	for _, k := range counts {
		eachPlace(func(x, y int) {
			got := Turn(Of(x, y), k[0])
			for _, part := range []float64{real(got), imag(got)} {
				if part == 0 && math.Signbit(part) {
					t.Errorf("Turn(Of(%d, %d), %d) = %v", x, y, k[0], got)
				}
			}
		})
	}
}

// P2.2
func TestSize(t *testing.T) {
	if w, h := Size(2, 3, 1); w != 3 || h != 2 {
		t.Errorf("Size(2, 3, 1) = %d, %d", w, h)
	}
	eachPicture(func(w, h, k, quarters int) {
		_, ww, wh := model(w, h, quarters)
		if gw, gh := Size(w, h, k); gw != ww || gh != wh {
			t.Errorf("Size(%d, %d, %d) = %d, %d, want %d, %d", w, h, k, gw, gh, ww, wh)
		}
	})
}

// P2.2: a picture of 2 by 3, pixel by pixel, as it is seen.
func TestToSeen(t *testing.T) {
	picture := []string{"ab", "cd", "ef"}
	for k, want := range [][]string{
		{"ab", "cd", "ef"},
		{"eca", "fdb"},
		{"fe", "dc", "ba"},
		{"bdf", "ace"},
	} {
		for v, row := range picture {
			for u := range row {
				x, y := To(2, 3, k, u, v)
				if y < 0 || y >= len(want) || x < 0 || x >= len(want[y]) || want[y][x] != row[u] {
					t.Errorf("To(2, 3, %d, %d, %d) = %d, %d", k, u, v, x, y)
				}
			}
		}
	}
}

// P2.2: pixels within the picture and beyond it, to the edges.
func TestToAndFrom(t *testing.T) {
	eachPicture(func(w, h, k, quarters int) {
		to, _, _ := model(w, h, quarters)
		eachPlace(func(u, v int) {
			wx, wy := to(u, v)
			if x, y := To(w, h, k, u, v); x != wx || y != wy {
				t.Errorf("To(%d, %d, %d, %d, %d) = %d, %d, want %d, %d", w, h, k, u, v, x, y, wx, wy)
			}
			if gu, gv := From(w, h, k, wx, wy); gu != u || gv != v {
				t.Errorf("From(%d, %d, %d, %d, %d) = %d, %d, want %d, %d", w, h, k, wx, wy, gu, gv, u, v)
			}
		})
	})
}

// P2.2: a turned picture's pixels are just those of its size, each once.
func TestToFillsTheTurnedPicture(t *testing.T) {
	for _, side := range [][2]int{{1, 1}, {1, 4}, {4, 1}, {2, 3}, {5, 5}} {
		for k := -5; k <= 5; k++ {
			w, h := Size(side[0], side[1], k)
			seen := map[[2]int]int{}
			for v := range side[1] {
				for u := range side[0] {
					x, y := To(side[0], side[1], k, u, v)
					seen[[2]int{x, y}]++
					if x < 0 || y < 0 || x >= w || y >= h {
						t.Errorf("%v by %d: %d, %d stands at %d, %d, outside of %d by %d", side, k, u, v, x, y, w, h)
					}
				}
			}
			if len(seen) != w*h {
				t.Errorf("%v by %d: %d places of %d by %d", side, k, len(seen), w, h)
			}
		}
	}
}

// P2.3: From turns To round, and To From.
func TestFromTurnsToRound(t *testing.T) {
	eachPicture(func(w, h, k, _ int) {
		eachPlace(func(a, b int) {
			x, y := To(w, h, k, a, b)
			if u, v := From(w, h, k, x, y); u != a || v != b {
				t.Errorf("From(%d, %d, %d, To(%d, %d)) = %d, %d", w, h, k, a, b, u, v)
			}
			u, v := From(w, h, k, a, b)
			if x, y := To(w, h, k, u, v); x != a || y != b {
				t.Errorf("To(%d, %d, %d, From(%d, %d)) = %d, %d", w, h, k, a, b, x, y)
			}
		})
	})
}

// P2.3: turned by four quarters, or by fours of them, a picture is itself.
func TestFourQuartersAreNone(t *testing.T) {
	for _, k := range []int{4, -4, 8, 1 << 40, math.MinInt} {
		for _, w := range sides {
			for _, h := range sides {
				if gw, gh := Size(w, h, k); gw != w || gh != h {
					t.Errorf("Size(%d, %d, %d) = %d, %d", w, h, k, gw, gh)
				}
				eachPlace(func(u, v int) {
					if x, y := To(w, h, k, u, v); x != u || y != v {
						t.Errorf("To(%d, %d, %d, %d, %d) = %d, %d", w, h, k, u, v, x, y)
					}
				})
			}
		}
	}
}

// P2.3: turned by j, and then by k, it is as turned by both.
func TestTurnedTwice(t *testing.T) {
	for j := -6; j <= 6; j++ {
		for k := -6; k <= 6; k++ {
			for _, side := range [][2]int{{1, 1}, {2, 3}, {7, 1}, {long, 5}, {long, long}} {
				w, h := side[0], side[1]
				w1, h1 := Size(w, h, j)
				w2, h2 := Size(w1, h1, k)
				if gw, gh := Size(w, h, j+k); gw != w2 || gh != h2 {
					t.Errorf("Size(%d, %d, %d) = %d, %d, want %d, %d", w, h, j+k, gw, gh, w2, h2)
				}
				eachPlace(func(u, v int) {
					x1, y1 := To(w, h, j, u, v)
					x2, y2 := To(w1, h1, k, x1, y1)
					if x, y := To(w, h, j+k, u, v); x != x2 || y != y2 {
						t.Errorf("To(%d, %d, %d, %d, %d) = %d, %d, want %d, %d", w, h, j+k, u, v, x, y, x2, y2)
					}
				})
			}
		}
	}
}

// The chapter's examples.
func TestExamples(t *testing.T) {
	if got := Turn(Of(3, 1), 1); got != Of(-1, 3) {
		t.Errorf("Turn(Of(3, 1), 1) = %v", got)
	}
	if x, y := To(2, 3, 1, 0, 0); x != 2 || y != 0 {
		t.Errorf("To(2, 3, 1, 0, 0) = %d, %d", x, y)
	}
	if u, v := From(2, 3, 1, 2, 0); u != 0 || v != 0 {
		t.Errorf("From(2, 3, 1, 2, 0) = %d, %d", u, v)
	}
	if w, h := Size(2, 3, 1); w != 3 || h != 2 {
		t.Errorf("Size(2, 3, 1) = %d, %d", w, h)
	}
}

// P1 of the whole: no call panics, at whatever it is given.
func TestWrongInputsEnd(t *testing.T) {
	for _, v := range []complex128{cmplx.NaN(), cmplx.Inf(), complex(math.Inf(-1), 0), complex(0.5, -0.5), complex(1e300, -1e300)} {
		Parts(v)
		for _, k := range counts {
			Turn(v, k[0])
		}
	}
	wrong := []int{math.MinInt, -far, -1, 0, math.MaxInt}
	for _, a := range wrong {
		for _, b := range wrong {
			Of(a, b)
			for _, k := range counts {
				Size(a, b, k[0])
				To(a, b, k[0], b, a)
				From(a, b, k[0], b, a)
			}
		}
	}
}
