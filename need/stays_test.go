package need

import (
	"math"
	"math/rand"
	"slices"
	"testing"

	"gouache/api"
)

// spoil writes over all of an answer, and over the room behind it.
func spoil(l []api.Rect) {
	for i := range l[:cap(l)] {
		l[:cap(l)][i] = of(-99, -98, -97, -96)
	}
}

// copied answers a filter of the same nodes, in memory of its own, with room behind each list.
func copied(g api.Graph) api.Graph {
	made := api.Graph{Out: g.Out}
	for _, n := range g.Nodes {
		made.Nodes = append(made.Nodes, api.Node{Op: n.Op, In: append(slices.Clone(n.In), 77)[:len(n.In)], P: append(slices.Clone(n.P), 78)[:len(n.P)]})
	}
	made.Nodes = append(made.Nodes, api.Node{Op: 79})[:len(g.Nodes)]
	return made
}

// alike says whether a filter is what it was when it was copied.
func alike(g, was api.Graph) bool {
	return g.Out == was.Out && g.Nodes[:len(g.Nodes)+1][len(g.Nodes)].Op == 79 && slices.EqualFunc(g.Nodes, was.Nodes, func(n, m api.Node) bool {
		return n.Op == m.Op && slices.Equal(n.In, m.In) && slices.Equal(n.P, m.P) &&
			n.In[:len(n.In)+1][len(n.In)] == 77 && n.P[:len(n.P)+1][len(n.P)] == 78
	})
}

// P14.3: of one node: what is handed in stays, and what is answered is new memory.
func TestNodeStays(t *testing.T) {
	c := chance()
	for range 200 {
		for op := 1; op <= 12; op++ {
			was := api.Graph{Nodes: []api.Node{drawNode(c, op, 3)}}
			g, want := copied(was), box(c, 9)
			first := Of(g.Nodes[0], want)
			told := slices.Clone(first)
			again := Of(g.Nodes[0], want)
			spoil(first)
			if !slices.Equal(again, told) {
				t.Fatalf("Of(%v, %v): %v, then %v", was, want, told, again)
			}
			spoil(again)
			if !alike(g, was) {
				t.Fatalf("Of(%v, %v) leaves %v", was, want, g)
			}
		}
	}
}

// P14.3: of a filter: what is handed in stays, and what is answered is new memory.
func TestFilterStays(t *testing.T) {
	c := chance()
	for range 2000 {
		was := drawGraph(c, 5)
		g, want := copied(was), box(c, 9)
		first, source := All(g, want)
		told := slices.Clone(first)
		again, same := All(g, want)
		spoil(first)
		if !slices.Equal(again, told) || same != source {
			t.Fatalf("All(%v, %v): %v %v, then %v %v", was, want, told, source, again, same)
		}
		spoil(again)
		if !alike(g, was) {
			t.Fatalf("All(%v, %v) leaves %v", was, want, g)
		}
	}
}

// odd answers a number of any sort.
func odd(c *rand.Rand) int {
	return []int{c.Intn(5) - 2, c.Intn(600) - 300, far, -far, far + 1, 1 << 20, math.MaxInt, math.MinInt, math.MinInt + 1, int(c.Uint64())}[c.Intn(10)]
}

// oddList answers numbers of any sort, as many as it may be.
func oddList(c *rand.Rand, most int) []int {
	var l []int
	for range c.Intn(most + 1) {
		l = append(l, odd(c))
	}
	return l
}

// Of what is wrong nothing is promised, but that calls end without a panic; there is one answer for each input, and for
// each node.
func TestWrong(t *testing.T) {
	c := chance()
	for range 20000 {
		g := api.Graph{Nodes: make([]api.Node, c.Intn(5)), Out: c.Intn(7) - 2}
		if c.Intn(9) == 0 {
			g.Out = odd(c)
		}
		want := of(odd(c), odd(c), odd(c), odd(c))
		for at := range g.Nodes {
			g.Nodes[at] = api.Node{Op: c.Intn(15) - 1, In: oddList(c, 4), P: oddList(c, 21)}
			if c.Intn(2) == 0 {
				g.Nodes[at].In = []int{c.Intn(6) - 2}
			}
			if got := Of(g.Nodes[at], want); len(got) != len(g.Nodes[at].In) {
				t.Fatal(g.Nodes[at], want, got)
			}
		}
		if got, _ := All(g, want); len(got) != len(g.Nodes) {
			t.Fatal(g, want, got)
		}
	}
}

// Of what is wrong nothing is needed, where there is nothing to go by: no kind, no Out, inputs that there aren't, nodes
// that lead round.
func TestWrongNothing(t *testing.T) {
	w := of(0, 0, 1, 1)
	for _, op := range []int{0, -1, 13, math.MinInt, math.MaxInt} {
		if got := Of(two(op, 1, 1), w); !slices.Equal(got, make([]api.Rect, 2)) {
			t.Error(op, got)
		}
	}
	shift := one(api.Offset, 1, 1)
	for i, g := range []api.Graph{
		{}, {Out: 1}, {Out: -2},
		{Nodes: []api.Node{shift}, Out: 1}, {Nodes: []api.Node{shift}, Out: math.MinInt}, {Nodes: []api.Node{shift}, Out: math.MaxInt},
	} {
		if nodes, source := All(g, w); !slices.Equal(nodes, make([]api.Rect, len(g.Nodes))) || source != (api.Rect{}) {
			t.Error(i, nodes, source)
		}
	}
	for i, in := range [][]int{{0, -1}, {-2}, {1, math.MaxInt, math.MinInt}} {
		g := api.Graph{Nodes: []api.Node{{Op: api.Merge, In: in}}}
		if nodes, source := All(g, w); !slices.Equal(nodes, []api.Rect{w}) || source != (api.Rect{}) {
			t.Error(i, nodes, source)
		}
	}
	// Parameters that a node lacks are 0.
	for i, n := range []api.Node{one(api.Offset, 3), one(api.Blur), one(api.Shadow, 1), one(api.Tile, 0, 0, 9), one(api.Clip)} {
		whole := n
		whole.P = append(slices.Clone(n.P), make([]int, 8)...)
		if got := Of(n, w); !slices.Equal(got, Of(whole, w)) {
			t.Error(i, got)
		}
	}
}
