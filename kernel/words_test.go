package kernel

import (
	"math/rand"
	"slices"
	"testing"

	"gouache/api"
	"gouache/mix"
	"gouache/node"
	"gouache/raster"
	"gouache/rect"
	"gouache/tint"
	"gouache/tone"
)

// around calls see with each pixel of b that is within rx and ry of x, y.
func around(b api.Buffer, x, y, rx, ry int, see func(p api.Px)) {
	for dy := -ry; dy <= ry; dy++ {
		for dx := -rx; dx <= rx; dx++ {
			see(raster.At(b, x+dx, y+dy))
		}
	}
}

// mean answers the mean of pixels, value by value.
func mean(l []api.Px) api.Px {
	var made api.Px
	for i := range made {
		sum := 0
		for _, p := range l {
			sum += int(p[i])
		}
		// The number nearest to the part: of an odd count there is just one.
		for 2*sum >= len(l)*(2*int(made[i])+1) {
			made[i]++
		}
	}
	return made
}

// blurred answers what b is at x, y, blurred.
func blurred(b api.Buffer, x, y, rx, ry int) api.Px {
	var rows []api.Px
	for dy := -ry; dy <= ry; dy++ {
		var row []api.Px
		around(b, x, y+dy, rx, 0, func(p api.Px) { row = append(row, p) })
		rows = append(rows, mean(row))
	}
	return mean(rows)
}

// chosen answers what choose makes, value by value, of all pixels of b that are within rx and ry of x, y.
func chosen(b api.Buffer, x, y, rx, ry int, choose func(a, b uint8) uint8) api.Px {
	made := raster.At(b, x, y)
	around(b, x, y, rx, ry, func(p api.Px) {
		for i := range made {
			made[i] = choose(made[i], p[i])
		}
	})
	return made
}

// inTile answers the one place from start to end that is whole sizes away from n.
func inTile(n, start, end int) int {
	size := end - start
	n -= (n - start) / size * size
	if n < start {
		n += size
	}
	return n
}

// over answers what comes of pixels that are put one on top of another, by Over, the last one being on top.
func over(first api.Px, more ...api.Px) api.Px {
	for _, p := range more {
		first = mix.Composite(api.Over, p, first)
	}
	return first
}

// cut answers p in a rectangle, elsewhere nothing.
func cut(p api.Px, r api.Rect, x, y int) api.Px {
	if x < r.X0 || x >= r.X1 || y < r.Y0 || y >= r.Y1 {
		return api.Px{}
	}
	return p
}

// px answers a pixel of four numbers.
func px(p []int) api.Px { return api.Px{uint8(p[0]), uint8(p[1]), uint8(p[2]), uint8(p[3])} }

// word answers what n makes of its inputs at x, y, by the words of the chapter and of those that it names.
func word(n api.Node, in []api.Buffer, x, y int) api.Px {
	p := n.P
	var here []api.Px
	for _, b := range in {
		here = append(here, raster.At(b, x, y))
	}
	switch n.Op {
	case 1:
		return raster.At(in[0], x-p[0], y-p[1])
	case 2:
		return blurred(in[0], x, y, p[0], p[1])
	case 3:
		return chosen(in[0], x, y, p[0], p[1], func(a, b uint8) uint8 { return min(a, b) })
	case 4:
		return chosen(in[0], x, y, p[0], p[1], func(a, b uint8) uint8 { return max(a, b) })
	case 5:
		return tint.Pixel(p, here[0])
	case 6:
		return cut(px(p), of(p[4], p[5], p[6], p[7]), x, y)
	case 7:
		return mix.Blend(p[0], here[0], here[1])
	case 8:
		return mix.Composite(p[0], here[0], here[1])
	case 9:
		return over(here[0], here[1:]...)
	case 10:
		return raster.At(in[0], inTile(x, p[0], p[2]), inTile(y, p[1], p[3]))
	case 11:
		soft := blurred(in[0], x-p[0], y-p[1], p[2], p[3])
		return over(tone.Scale(px(p[4:]), soft[3]), here[0])
	case 12:
		return cut(here[0], of(p[0], p[1], p[2], p[3]), x, y)
	}
	panic("no kind")
}

// points calls do with each point of a box, row by row, from the left to the right, and its number.
func points(box api.Rect, do func(i, x, y int)) {
	i := 0
	for y := box.Y0; y < box.Y1; y++ {
		for x := box.X0; x < box.X1; x++ {
			do(i, x, y)
			i++
		}
	}
}

// holds holds Do, and At if the node goes point by point, against the words in all of a box. It answers how many pixels
// are something.
func holds(t *testing.T, n api.Node, in []api.Buffer, box api.Rect) int {
	t.Helper()
	got := Do(n, in, box)
	if got.Box != box || !raster.Right(got) {
		t.Fatalf("Do(%v, %v, %v): the box is %v, of %d pixels", n, in, box, got.Box, len(got.Pix))
	}
	seen := 0
	points(box, func(i, x, y int) {
		want := word(n, in, x, y)
		if got.Pix[i] != want {
			t.Fatalf("Do(%v, %v, %v): %v at %d, %d, want %v", n, in, box, got.Pix[i], x, y, want)
		}
		if !slices.Contains(byPoint, n.Op) {
			return
		}
		if p := At(n, at(in, x, y), x, y); p != want {
			t.Fatalf("At(%v, %v, %d, %d): %v, want %v", n, at(in, x, y), x, y, p, want)
		}
	})
	for _, p := range got.Pix {
		if p != (api.Px{}) {
			seen++
		}
	}
	return seen
}

// at answers what buffers are at x, y.
func at(in []api.Buffer, x, y int) []api.Px {
	var l []api.Px
	for _, b := range in {
		l = append(l, raster.At(b, x, y))
	}
	return l
}

// drawPixel answers a right pixel, now and then nothing or all of a value.
func drawPixel(c *rand.Rand) api.Px {
	switch c.Intn(8) {
	case 0:
		return api.Px{}
	case 1:
		return api.Px{255, 255, 255, 255}
	}
	return tone.Thick(api.Px{uint8(c.Intn(256)), uint8(c.Intn(256)), uint8(c.Intn(256)), uint8(c.Intn(256))})
}

// picture answers a buffer of that box, with right pixels of all sorts.
func picture(c *rand.Rand, box api.Rect) api.Buffer {
	b := raster.New(box)
	for i := range b.Pix {
		b.Pix[i] = drawPixel(c)
	}
	return b
}

// some answers a number from -n to n.
func some(c *rand.Rand, n int) int { return c.Intn(2*n+1) - n }

// box answers a box of at most 9 by 9 points by the place x, y.
func box(c *rand.Rand, x, y int) api.Rect {
	x0, y0 := x+some(c, 5)-2, y+some(c, 5)-2
	return of(x0, y0, x0+1+c.Intn(9), y0+1+c.Intn(9))
}

// drawInputs answers n pictures by the place x, y, one in six of them without pixels.
func drawInputs(c *rand.Rand, n, x, y int) []api.Buffer {
	l := make([]api.Buffer, n)
	for i := range l {
		if c.Intn(6) != 0 {
			l[i] = picture(c, box(c, x, y))
		}
	}
	return l
}

// drawMatrix answers a matrix: one of all sorts of numbers, or one that changes little.
func drawMatrix(c *rand.Rand) []int {
	m := make([]int, 20)
	wide := []int{32768, 600, 60}[c.Intn(3)]
	for i := range m {
		m[i] = max(-32768, min(some(c, wide), 32767))
		if wide == 60 && i%6 == 0 {
			m[i] += 256
		}
	}
	return m
}

// drawP answers right parameters of a kind, whose places are by x, y, and whose radii and ways are small.
func drawP(c *rand.Rand, op, x, y int) []int {
	pixel := func() []int {
		p := drawPixel(c)
		return []int{int(p[0]), int(p[1]), int(p[2]), int(p[3])}
	}
	edges := func(r api.Rect) []int { return []int{r.X0, r.Y0, r.X1, r.Y1} }
	clip := box(c, x, y)
	if c.Intn(6) == 0 {
		clip = of(clip.X1, clip.Y0, clip.X0, clip.Y1)
	}
	switch op {
	case api.Offset:
		return []int{some(c, 6), some(c, 6)}
	case api.Blur, api.Erode, api.Dilate:
		return []int{c.Intn(4), c.Intn(4)}
	case api.Matrix:
		return drawMatrix(c)
	case api.Flood:
		return append(pixel(), edges(clip)...)
	case api.Blend:
		return []int{c.Intn(7)}
	case api.Composite:
		return []int{c.Intn(6)}
	case api.Tile:
		return edges(box(c, x, y))
	case api.Shadow:
		return append([]int{some(c, 6), some(c, 6), c.Intn(4), c.Intn(4)}, pixel()...)
	case api.Clip:
		return edges(clip)
	}
	return nil
}

// drawNode answers a right node of a kind, and what its inputs are, all of it by the place x, y.
func drawNode(t *testing.T, c *rand.Rand, op, x, y int) (api.Node, []api.Buffer) {
	t.Helper()
	least, most, _, _ := node.Arity(op)
	n := api.Node{Op: op, P: drawP(c, op, x, y)}
	for range least + c.Intn(most-least+1) {
		n.In = append(n.In, c.Intn(5)-1)
	}
	if fault := node.One(n, 4); fault != api.OK {
		t.Fatal(n, "is no right node:", fault)
	}
	return n, drawInputs(c, len(n.In), x, y)
}

// P15.1: nodes of all kinds, of small pictures and boxes, that meet in all ways, or don't.
func TestSmall(t *testing.T) {
	c := chance()
	var seen [13]int
	for range 2000 {
		for op := 1; op <= 12; op++ {
			n, in := drawNode(t, c, op, 0, 0)
			seen[op] += holds(t, n, in, box(c, 0, 0))
		}
	}
	for op, n := range seen[1:] {
		if n < 500 {
			t.Error("of the kind", op+1, "little is seen:", n)
		}
	}
}

// P15.1: nodes whose places are by the ends that coordinates have.
func TestAtMaxCoord(t *testing.T) {
	c := chance()
	const end = api.MaxCoord
	for _, x := range []int{-end + 20, end - 20} {
		for _, y := range []int{-end + 20, end - 20} {
			for range 40 {
				for op := 1; op <= 12; op++ {
					n, in := drawNode(t, c, op, x, y)
					holds(t, n, in, box(c, x, y))
				}
			}
		}
	}
}

// P15.1: boxes at the ends that they may have, with pictures there.
func TestFar(t *testing.T) {
	c := chance()
	for _, x := range []int{-far / 2, far/2 - 7} {
		for _, y := range []int{-far / 2, 0, far/2 - 7} {
			for range 20 {
				for op := 1; op <= 12; op++ {
					n, _ := drawNode(t, c, op, 0, 0)
					in := drawInputs(c, len(n.In), x, y)
					holds(t, n, in, of(x, y, x+1+c.Intn(7), y+1+c.Intn(7)))
				}
			}
		}
	}
}

// P15.1: right pixels make right ones.
func TestMadeIsRight(t *testing.T) {
	c := chance()
	for range 1000 {
		for op := 1; op <= 12; op++ {
			n, in := drawNode(t, c, op, 0, 0)
			for _, p := range Do(n, in, box(c, 0, 0)).Pix {
				if !tone.Right(p) {
					t.Fatalf("Do(%v, %v): %v isn't right", n, in, p)
				}
			}
		}
	}
}

// P15.1: pictures that lie within a box, or around it, by more than radii are, and of many more pixels.
func TestWide(t *testing.T) {
	c := chance()
	for op := 1; op <= 12; op++ {
		for _, inner := range []api.Rect{of(0, 0, 3, 2), of(-2, -20, 1, 25), of(-20, -1, 25, 2)} {
			n, in := drawNode(t, c, op, 0, 0)
			outer := rect.Grow(inner, 6, 7, 8, 9)
			for i := range in {
				in[i] = picture(c, inner)
			}
			holds(t, n, in, outer)
			for i := range in {
				in[i] = picture(c, outer)
			}
			holds(t, n, in, inner)
		}
	}
}
