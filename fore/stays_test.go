package fore

import (
	"math"
	"math/rand"
	"slices"
	"testing"

	"gouache/api"
	"gouache/region"
)

// spare answers a region of the same rectangles, with room behind them that has something in it.
func spare(a api.Region) api.Region {
	made := make(api.Region, len(a), len(a)+2)
	copy(made, a)
	made[:len(a)+2][len(a)] = of(1, 2, 3, 4)
	made[:len(a)+2][len(a)+1] = of(5, 6, 7, 8)
	return made
}

// whole answers a copy of a region and of the room behind it.
func whole(a api.Region) api.Region { return slices.Clone(a[:cap(a)]) }

// spoil writes over all of an answer, and over the room behind it.
func spoil(a api.Region) {
	for i := range a[:cap(a)] {
		a[:cap(a)][i] = of(-99, -98, -97, -96)
	}
}

// copied answers a filter of the same nodes, in memory of its own, with room behind each list.
func copied(g api.Graph) api.Graph {
	made := api.Graph{Out: g.Out}
	for _, n := range g.Nodes {
		made.Nodes = append(made.Nodes, api.Node{Op: n.Op, In: append(slices.Clone(n.In), 77)[:len(n.In)], P: append(slices.Clone(n.P), 78)[:len(n.P)]})
	}
	return made
}

// alike says whether a filter is what it was when it was copied.
func alike(g, was api.Graph) bool {
	return g.Out == was.Out && slices.EqualFunc(g.Nodes, was.Nodes, func(n, m api.Node) bool {
		return n.Op == m.Op && slices.Equal(n.In, m.In) && slices.Equal(n.P, m.P) &&
			n.In[:len(n.In)+1][len(n.In)] == 77 && n.P[:len(n.P)+1][len(n.P)] == 78
	})
}

// P13.3: of one node: what is handed in stays, and what is answered is new memory.
func TestNodeStays(t *testing.T) {
	c := chance()
	for range 200 {
		for op := 1; op <= 12; op++ {
			n := drawNode(c, op, 0)
			g := copied(api.Graph{Nodes: []api.Node{n}})
			l := make([]api.Region, len(n.In), len(n.In)+1)
			r := make([]api.Rect, len(n.In), len(n.In)+1)
			l[:len(n.In)+1][len(n.In)], r[:len(n.In)+1][len(n.In)] = region.Of(of(7, 7, 8, 8)), of(9, 9, 10, 10)
			var was []api.Region
			for i := range l {
				l[i], r[i] = spare(drawRegion(c)), box(c, 9)
				was = append(was, whole(l[i]))
			}
			rects := slices.Clone(r[:len(r)+1])
			first := Spread(g.Nodes[0], l)
			told := slices.Clone(first)
			again := Spread(g.Nodes[0], l)
			spoil(first)
			if !slices.Equal(again, told) {
				t.Fatalf("%v: %v, then %v", n, told, again)
			}
			spoil(again)
			Reach(g.Nodes[0], r)
			for i := range l {
				if !slices.Equal(whole(l[i]), was[i]) {
					t.Fatalf("%v changes %v to %v", n, was[i], whole(l[i]))
				}
			}
			if !alike(g, api.Graph{Nodes: []api.Node{n}}) || !slices.Equal(r[:len(r)+1], rects) || l[:len(l)+1][len(l)][0] != of(7, 7, 8, 8) {
				t.Fatalf("%v: what is handed in is changed", n)
			}
		}
	}
}

// P13.3: of a filter: what is handed in stays, and what is answered is new memory.
func TestFilterStays(t *testing.T) {
	c := chance()
	for range 2000 {
		was := drawGraph(c, 5)
		g, a := copied(was), spare(drawRegion(c))
		rects := whole(a)
		first := SpreadAll(g, a)
		told := slices.Clone(first)
		again := SpreadAll(g, a)
		spoil(first)
		if !slices.Equal(again, told) {
			t.Fatalf("%v: %v, then %v", g, told, again)
		}
		spoil(again)
		ReachAll(g, box(c, 9))
		if !slices.Equal(whole(a), rects) || !alike(g, was) {
			t.Fatalf("%v changes %v to %v", was, rects, whole(a))
		}
	}
}

// odd answers a number of any sort.
func odd(c *rand.Rand) int {
	return []int{c.Intn(5) - 2, c.Intn(600) - 300, far, -far, far + 1, 1 << 20, math.MaxInt, math.MinInt, math.MinInt + 1, int(c.Uint64())}[c.Intn(10)]
}

// oddList answers numbers of any sort, as many as it may be.
func oddList(c *rand.Rand, most int) []int {
	var l []int
	for range c.Intn(most + 1) {
		l = append(l, odd(c))
	}
	return l
}

// oddRegion answers rectangles that are mostly no right region.
func oddRegion(c *rand.Rand) api.Region {
	var a api.Region
	for range c.Intn(5) {
		a = append(a, of(odd(c), odd(c), odd(c), odd(c)))
	}
	return a
}

// Of what is wrong nothing is promised, but that calls end without a panic.
func TestWrong(t *testing.T) {
	c := chance()
	for range 20000 {
		g := api.Graph{Nodes: make([]api.Node, c.Intn(5)), Out: c.Intn(7) - 2}
		if c.Intn(9) == 0 {
			g.Out = odd(c)
		}
		for at := range g.Nodes {
			g.Nodes[at] = api.Node{Op: c.Intn(15) - 1, In: oddList(c, 4), P: oddList(c, 21)}
			if c.Intn(2) == 0 {
				g.Nodes[at].In = []int{c.Intn(6) - 2}
			}
			var l []api.Region
			var r []api.Rect
			for range c.Intn(4) {
				l, r = append(l, oddRegion(c)), append(r, of(odd(c), odd(c), odd(c), odd(c)))
			}
			Spread(g.Nodes[at], l)
			Reach(g.Nodes[at], r)
		}
		SpreadAll(g, oddRegion(c))
		ReachAll(g, of(odd(c), odd(c), odd(c), odd(c)))
	}
}

// Of what is wrong the answer is nothing, where there is nothing to go by: no kind, no node, no Out, nodes that lead round.
func TestWrongNothing(t *testing.T) {
	a, r := api.Region{of(0, 0, 1, 1)}, of(0, 0, 1, 1)
	for _, op := range []int{0, -1, 13, math.MinInt, math.MaxInt} {
		if got := Spread(one(op, 1, 1), []api.Region{a}); len(got) > 0 {
			t.Error(op, got)
		}
		if got := Reach(one(op, 1, 1), []api.Rect{r}); got != (api.Rect{}) {
			t.Error(op, got)
		}
	}
	shift := one(api.Offset, 1, 1)
	loop := api.Node{Op: api.Merge, In: []int{0}}
	for i, g := range []api.Graph{
		{}, {Out: -1}, {Out: 1},
		{Nodes: []api.Node{shift}, Out: -1}, {Nodes: []api.Node{shift}, Out: 1}, {Nodes: []api.Node{shift}, Out: math.MinInt},
		{Nodes: []api.Node{loop}}, {Nodes: []api.Node{{Op: api.Merge, In: []int{-2, 1, math.MaxInt, math.MinInt}}}},
	} {
		if got := SpreadAll(g, a); len(got) > 0 {
			t.Error(i, got)
		}
		if got := ReachAll(g, r); got != (api.Rect{}) {
			t.Error(i, got)
		}
	}
}
