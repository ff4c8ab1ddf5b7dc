package kernel

import (
	"slices"
	"testing"

	"gouache/api"
	"gouache/fore"
	"gouache/need"
	"gouache/raster"
	"gouache/rect"
	"gouache/region"
)

// same says whether two buffers are the same.
func same(a, b api.Buffer) bool { return a.Box == b.Box && slices.Equal(a.Pix, b.Pix) }

// P15.2: what is made is the same, whether inputs are known all over, or only in what the node needs for the box; and
// whatever they are elsewhere.
func TestFollowsNeed(t *testing.T) {
	c := chance()
	var less [13]int
	for range 1500 {
		for op := 1; op <= 12; op++ {
			n, in := drawNode(t, c, op, 0, 0)
			b := box(c, 0, 0)
			want := Do(n, in, b)
			known, other := make([]api.Buffer, len(in)), make([]api.Buffer, len(in))
			for i, r := range need.Of(n, b) {
				known[i] = raster.Window(in[i], r)
				other[i] = picture(c, rect.Grow(rect.Join(in[i].Box, r), 3, 3, 3, 3))
				raster.Copy(&other[i], in[i], r, 0, 0)
				if !rect.Within(in[i].Box, r) {
					less[op]++
				}
			}
			if got := Do(n, known, b); !same(got, want) {
				t.Fatalf("Do(%v, %v, %v): %v, want %v, as with %v", n, known, b, got, want, in)
			}
			if got := Do(n, other, b); !same(got, want) {
				t.Fatalf("Do(%v, %v, %v): %v, want %v, as with %v", n, other, b, got, want, in)
			}
		}
	}
	for op, count := range less[1:] {
		if op+1 != api.Flood && count < 200 {
			t.Error("of the kind", op+1, "little is left out:", count)
		}
	}
}

// P15.2: one point of a box needs no more than it needs: what is made there is what the box has.
func TestFollowsPoint(t *testing.T) {
	c := chance()
	for range 200 {
		for op := 1; op <= 12; op++ {
			n, in := drawNode(t, c, op, 0, 0)
			b := box(c, 0, 0)
			all := Do(n, in, b)
			points(b, func(i, x, y int) {
				spot := of(x, y, x+1, y+1)
				known := make([]api.Buffer, len(in))
				for k, r := range need.Of(n, spot) {
					known[k] = raster.Window(in[k], r)
				}
				if got := Do(n, known, spot); got.Box != spot || !slices.Equal(got.Pix, all.Pix[i:i+1]) {
					t.Fatalf("Do(%v, %v, %v): %v, want %v", n, known, spot, got, all.Pix[i])
				}
			})
		}
	}
}

// P15.2: two inputs that differ in a region make what differs in its spread alone.
func TestFollowsSpread(t *testing.T) {
	c := chance()
	var differ [13]int
	for range 1500 {
		for op := 1; op <= 12; op++ {
			n, in := drawNode(t, c, op, 0, 0)
			changed := make([]api.Buffer, len(in))
			var where []api.Region
			for i, b := range in {
				a := region.Of(box(c, 0, 0))
				if c.Intn(2) == 0 {
					a = region.Join(a, region.Of(box(c, 0, 0)))
				}
				if c.Intn(3) == 0 {
					a = nil
				}
				where = append(where, a)
				changed[i] = raster.Window(b, rect.Join(b.Box, region.Bounds(a)))
				for _, r := range a {
					raster.Copy(&changed[i], picture(c, r), r, 0, 0)
				}
			}
			spread := fore.Spread(n, where)
			b := rect.Grow(box(c, 0, 0), 9, 9, 9, 9)
			first, again := Do(n, in, b), Do(n, changed, b)
			points(b, func(i, x, y int) {
				if first.Pix[i] == again.Pix[i] {
					return
				}
				differ[op]++
				if !region.Has(spread, x, y) {
					t.Fatalf("%v of %v and of %v, which differ in %v: other at %d, %d, not in %v", n, in, changed, where, x, y, spread)
				}
			})
		}
	}
	for op, count := range differ[1:] {
		if op+1 != api.Flood && count < 500 {
			t.Error("of the kind", op+1, "little differs:", count)
		}
	}
}

// P15.2: inputs that are nothing outside of rectangles make what is nothing outside of the node's reach of them.
func TestFollowsReach(t *testing.T) {
	c := chance()
	var within, without [13]int
	for range 1500 {
		for op := 1; op <= 12; op++ {
			n, in := drawNode(t, c, op, 0, 0)
			var where []api.Rect
			for _, b := range in {
				where = append(where, b.Box)
			}
			reach := fore.Reach(n, where)
			b := rect.Grow(box(c, 0, 0), 9, 9, 9, 9)
			got := Do(n, in, b)
			points(b, func(i, x, y int) {
				if !rect.Has(reach, x, y) {
					without[op]++
					if got.Pix[i] != (api.Px{}) {
						t.Fatalf("%v of %v: something at %d, %d, not in %v", n, in, x, y, reach)
					}
				} else if got.Pix[i] != (api.Px{}) {
					within[op]++
				}
			})
		}
	}
	for op := 1; op <= 12; op++ {
		if within[op] < 500 || without[op] < 500 {
			t.Error("of the kind", op, "little is in reach, or all:", within[op], without[op])
		}
	}
}
