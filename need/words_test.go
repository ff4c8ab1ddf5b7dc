package need

import (
	"math/rand"
	"slices"
	"testing"

	"gouache/api"
	"gouache/node"
	"gouache/rect"
)

// points are some points of the plane, one by one.
type points map[[2]int]bool

// within answers the points of a rectangle.
func within(x0, y0, x1, y1 int) points {
	made := points{}
	for y := y0; y < y1; y++ {
		for x := x0; x < x1; x++ {
			made[[2]int{x, y}] = true
		}
	}
	return made
}

// each answers what one makes of each of the points, all in all.
func (a points) each(one func(x, y int) points) points {
	made := points{}
	for at := range a {
		for to := range one(at[0], at[1]) {
			made[to] = true
		}
	}
	return made
}

func (a points) moved(dx, dy int) points {
	return a.each(func(x, y int) points { return points{{x + dx, y + dy}: true} })
}

func (a points) grown(rx, ry int) points {
	return a.each(func(x, y int) points { return within(x-rx, y-ry, x+rx+1, y+ry+1) })
}

// common answers the points that both have.
func (a points) common(b points) points {
	made := points{}
	for at := range a {
		if b[at] {
			made[at] = true
		}
	}
	return made
}

// rect answers the least rectangle that has all of the points.
func (a points) rect() api.Rect {
	var made api.Rect
	for at := range a {
		if made == (api.Rect{}) {
			made = of(at[0], at[1], at[0]+1, at[1]+1)
		}
		made = of(min(made.X0, at[0]), min(made.Y0, at[1]), max(made.X1, at[0]+1), max(made.Y1, at[1]+1))
	}
	return made
}

// wordOf answers what a node needs of each of its inputs, by the chapter's words.
func wordOf(n api.Node, want api.Rect) api.Rect {
	it := within(want.X0, want.Y0, want.X1, want.Y1)
	if len(it) == 0 {
		return api.Rect{}
	}
	switch n.Op {
	case 1:
		return it.moved(-n.P[0], -n.P[1]).rect()
	case 2, 3, 4:
		return it.grown(n.P[0], n.P[1]).rect()
	case 10:
		tile := within(n.P[0], n.P[1], n.P[2], n.P[3])
		if len(it.common(tile)) == len(it) {
			return it.rect()
		}
		return tile.rect()
	case 11:
		under := it.moved(-n.P[0], -n.P[1]).grown(n.P[2], n.P[3])
		for at := range it {
			under[at] = true
		}
		return under.rect()
	case 12:
		return it.common(within(n.P[0], n.P[1], n.P[2], n.P[3])).rect()
	}
	return it.rect()
}

// wordAll answers what is needed of the node at (or of Source), by the chapter's words: it asks those that have it as an
// input, whether they stand ahead of it or behind it.
func wordAll(g api.Graph, at int, want api.Rect) api.Rect {
	var all api.Rect
	if at == g.Out {
		all = rect.Join(all, want)
	}
	for user, n := range g.Nodes {
		if slices.Contains(n.In, at) {
			all = rect.Join(all, wordOf(n, wordAll(g, user, want)))
		}
	}
	return all
}

// box answers a rectangle around 0, which may be empty.
func box(c *rand.Rand, wide int) api.Rect {
	return of(c.Intn(wide)-wide/2, c.Intn(wide)-wide/2, c.Intn(wide)-wide/2, c.Intn(wide)-wide/2)
}

// full answers a rectangle around 0 that isn't empty.
func full(c *rand.Rand, wide int) api.Rect {
	x, y := c.Intn(wide)-wide/2, c.Intn(wide)-wide/2
	return of(x, y, x+1+c.Intn(wide), y+1+c.Intn(wide))
}

// drawP answers right parameters of a kind, none of them great.
func drawP(c *rand.Rand, op int) []int {
	pixel := func() []int {
		alpha := c.Intn(3) * 100
		return []int{c.Intn(alpha + 1), c.Intn(alpha + 1), c.Intn(alpha + 1), alpha}
	}
	edges := func(r api.Rect) []int { return []int{r.X0, r.Y0, r.X1, r.Y1} }
	switch op {
	case api.Offset:
		return []int{c.Intn(7) - 3, c.Intn(7) - 3}
	case api.Blur, api.Erode, api.Dilate:
		return []int{c.Intn(3), c.Intn(3)}
	case api.Matrix:
		m := make([]int, 20)
		for i := range m {
			m[i] = c.Intn(512) - 200
		}
		return m
	case api.Flood:
		return append(pixel(), edges(box(c, 12))...)
	case api.Blend:
		return []int{c.Intn(7)}
	case api.Composite:
		return []int{c.Intn(6)}
	case api.Tile:
		return edges(full(c, 6))
	case api.Shadow:
		return append([]int{c.Intn(7) - 3, c.Intn(7) - 3, c.Intn(3), c.Intn(3)}, pixel()...)
	case api.Clip:
		return edges(box(c, 14))
	}
	return nil
}

// drawNode answers a right node of a filter of so many.
func drawNode(c *rand.Rand, op, count int) api.Node {
	least, most, _, _ := node.Arity(op)
	n := api.Node{Op: op, P: drawP(c, op)}
	for range least + c.Intn(min(most-least, 2)+1) {
		n.In = append(n.In, c.Intn(count+1)-1)
	}
	return n
}

// drawGraph answers a right filter of at most so many nodes.
func drawGraph(c *rand.Rand, most int) api.Graph {
	for {
		g := api.Graph{Nodes: make([]api.Node, 1+c.Intn(most))}
		g.Out = c.Intn(len(g.Nodes))
		for at := range g.Nodes {
			g.Nodes[at] = drawNode(c, 1+c.Intn(12), len(g.Nodes))
		}
		if node.Check(g) == api.OK {
			return g
		}
	}
}

// P14.1: nodes of all kinds against the chapter's words.
func TestNodesMixed(t *testing.T) {
	c := chance()
	for range 500 {
		for op := 1; op <= 12; op++ {
			n, want := drawNode(c, op, 3), box(c, 9)
			got := Of(n, want)
			if len(got) != len(n.In) {
				t.Fatalf("Of(%v, %v): %v", n, want, got)
			}
			word := wordOf(n, want)
			for _, r := range got {
				if r != word {
					t.Fatalf("Of(%v, %v): %v, want %v", n, want, got, word)
				}
			}
		}
	}
}

// P14.1: filters of all sorts against the chapter's words.
func TestFiltersMixed(t *testing.T) {
	c := chance()
	sources, shared := 0, 0
	for range 3000 {
		g, want := drawGraph(c, 6), full(c, 6)
		if c.Intn(9) == 0 {
			want = box(c, 9)
		}
		nodes, source := All(g, want)
		if len(nodes) != len(g.Nodes) {
			t.Fatalf("All(%v, %v): %v", g, want, nodes)
		}
		for at, got := range nodes {
			if word := wordAll(g, at, want); got != word {
				t.Fatalf("All(%v, %v): %v of %d, want %v", g, want, got, at, word)
			}
		}
		if word := wordAll(g, api.Source, want); source != word {
			t.Fatalf("All(%v, %v): %v of Source, want %v", g, want, source, word)
		}
		if !rect.Empty(source) {
			sources++
		}
		if asked := slices.IndexFunc(nodes, func(r api.Rect) bool { return r != want && !rect.Empty(r) }); asked >= 0 {
			shared++
		}
	}
	if sources < 500 || shared < 500 {
		t.Error("of few is much needed:", sources, shared)
	}
}
