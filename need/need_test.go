package need

import (
	"math/rand"
	"slices"
	"testing"

	"gouache/api"
	"gouache/node"
	"gouache/rect"
)

const far = api.Far

func chance() *rand.Rand { return rand.New(rand.NewSource(14)) }

func of(x0, y0, x1, y1 int) api.Rect { return api.Rect{X0: x0, Y0: y0, X1: x1, Y1: y1} }

// one answers a node of a kind that has Source alone.
func one(op int, p ...int) api.Node { return api.Node{Op: op, In: []int{api.Source}, P: p} }

// two answers a node of a kind that has Source twice.
func two(op int, p ...int) api.Node {
	return api.Node{Op: op, In: []int{api.Source, api.Source}, P: p}
}

// from answers n with other inputs.
func from(n api.Node, in ...int) api.Node { return api.Node{Op: n.Op, In: in, P: n.P} }

// matrix answers a Matrix that leaves Source as it is, but adds so much to alpha.
func matrix(alpha int) api.Node {
	m := make([]int, 20)
	m[0], m[6], m[12], m[18], m[19] = 256, 256, 256, 256, alpha
	return one(api.Matrix, m...)
}

// flood answers a Flood of something within 0 0 9 9.
func flood() api.Node { return api.Node{Op: api.Flood, P: []int{0, 0, 0, 9, 0, 0, 9, 9}} }

// shadow answers a Shadow of some pixel.
func shadow(dx, dy, rx, ry int) api.Node { return one(api.Shadow, dx, dy, rx, ry, 1, 2, 3, 4) }

// P14.1: one node of each kind, of 1 2 5 4.
func TestOf(t *testing.T) {
	w := of(1, 2, 5, 4)
	for i, e := range []struct {
		n    api.Node
		want []api.Rect
	}{
		{one(api.Offset, 3, -1), []api.Rect{of(-2, 3, 2, 5)}},
		{one(api.Offset, 0, 0), []api.Rect{w}},
		{one(api.Offset, 1048576, -1048576), []api.Rect{of(-1048575, 1048578, -1048571, 1048580)}},
		{one(api.Offset, -1048576, 1048576), []api.Rect{of(1048577, -1048574, 1048581, -1048572)}},
		{one(api.Blur, 1, 3), []api.Rect{of(0, -1, 6, 7)}},
		{one(api.Blur, 0, 0), []api.Rect{w}},
		{one(api.Blur, 255, 0), []api.Rect{of(-254, 2, 260, 4)}},
		{one(api.Erode, 3, 1), []api.Rect{of(-2, 1, 8, 5)}},
		{one(api.Erode, 0, 255), []api.Rect{of(1, -253, 5, 259)}},
		{one(api.Dilate, 1, 0), []api.Rect{of(0, 2, 6, 4)}},
		{one(api.Dilate, 255, 255), []api.Rect{of(-254, -253, 260, 259)}},
		{matrix(0), []api.Rect{w}},
		{matrix(9), []api.Rect{w}},
		{flood(), nil},
		{two(api.Blend, 6), []api.Rect{w, w}},
		{from(two(api.Blend, 0), 7, api.Source), []api.Rect{w, w}},
		{two(api.Composite, 1), []api.Rect{w, w}},
		// What shows nothing of an input needs it as any other does.
		{two(api.Composite, api.Clear), []api.Rect{w, w}},
		{one(api.Merge), []api.Rect{w}},
		{api.Node{Op: api.Merge, In: []int{-1, 0, -1, 3, 3, 2, 1, 0}}, slices.Repeat([]api.Rect{w}, 8)},
		{one(api.Clip, -9, -9, 9, 9), []api.Rect{w}},
		{one(api.Clip, 1, 2, 5, 4), []api.Rect{w}},
		{one(api.Clip, 2, 3, 9, 9), []api.Rect{of(2, 3, 5, 4)}},
		{one(api.Clip, -9, -9, 2, 3), []api.Rect{of(1, 2, 2, 3)}},
		{one(api.Clip, 5, 2, 9, 4), []api.Rect{{}}},
		{one(api.Clip, 1, 4, 5, 9), []api.Rect{{}}},
		{one(api.Clip, 3, 3, 3, 9), []api.Rect{{}}},
		{one(api.Clip, 4, 4, 2, 2), []api.Rect{{}}},
		{one(api.Tile, 1, 2, 5, 4), []api.Rect{w}},
		{one(api.Tile, 0, 0, 9, 9), []api.Rect{w}},
		{one(api.Tile, 2, 2, 5, 4), []api.Rect{of(2, 2, 5, 4)}},
		{one(api.Tile, 1, 3, 5, 4), []api.Rect{of(1, 3, 5, 4)}},
		{one(api.Tile, 1, 2, 4, 4), []api.Rect{of(1, 2, 4, 4)}},
		{one(api.Tile, 1, 2, 5, 3), []api.Rect{of(1, 2, 5, 3)}},
		// The whole tile, though its middle alone would be seen, and though it lies elsewhere.
		{one(api.Tile, 0, -4, 9, 3), []api.Rect{of(0, -4, 9, 3)}},
		{one(api.Tile, 50, 60, 54, 63), []api.Rect{of(50, 60, 54, 63)}},
		{one(api.Tile, 1044480, -1048576, 1048576, -1044480), []api.Rect{of(1044480, -1048576, 1048576, -1044480)}},
		{shadow(5, 0, 1, 0), []api.Rect{of(-5, 2, 5, 4)}},
		{shadow(-5, 1, 0, 3), []api.Rect{of(1, -2, 10, 6)}},
		{shadow(0, 0, 2, 1), []api.Rect{of(-1, 1, 7, 5)}},
		{shadow(0, 0, 0, 0), []api.Rect{w}},
		{shadow(0, -9, 0, 0), []api.Rect{of(1, 2, 5, 13)}},
		// A shadow that is nothing is as any other.
		{one(api.Shadow, 3, 3, 0, 0, 0, 0, 0, 0), []api.Rect{of(-2, -1, 5, 4)}},
	} {
		if fault := node.One(e.n, 8); fault != api.OK {
			t.Error(i, "is no right node:", fault)
		}
		if got := Of(e.n, w); !slices.Equal(got, e.want) {
			t.Error(i, got)
		}
	}
}

// empties answers rectangles without points.
func empties() []api.Rect {
	return []api.Rect{{}, of(5, 5, 5, 9), of(5, 5, 9, 5), of(9, 9, 2, 2), of(far, -far, -far, far), of(0, far, 1, far), of(-far, 0, -far, 1)}
}

// P14.1: of a rectangle without points nothing is needed, whatever its edges are.
func TestEmpty(t *testing.T) {
	merge := api.Node{Op: api.Merge, In: []int{-1, -1, -1, -1, -1}}
	for _, w := range empties() {
		for _, n := range []api.Node{
			one(api.Offset, 1, 1), one(api.Blur, 9, 9), one(api.Erode, 9, 9), one(api.Dilate, 9, 9), matrix(9), flood(), two(api.Blend, 0),
			two(api.Composite, 0), merge, one(api.Tile, 0, 0, 3, 3), one(api.Tile, 4, 4, 10, 10), shadow(1, 1, 9, 9), one(api.Clip, 4, 4, 10, 10),
		} {
			if got := Of(n, w); !slices.Equal(got, make([]api.Rect, len(n.In))) {
				t.Error(n, w, got)
			}
			nodes, source := All(api.Graph{Nodes: []api.Node{n}}, w)
			if !slices.Equal(nodes, []api.Rect{{}}) || source != (api.Rect{}) {
				t.Error(n, w, nodes, source)
			}
		}
	}
}

// P14.1: what comes to an end of the plane is cut there, and an edge there stays when it is moved.
func TestEnds(t *testing.T) {
	all := rect.All()
	for i, e := range []struct {
		n          api.Node
		want, need api.Rect
	}{
		{one(api.Offset, -2, 0), of(far-3, 0, far-1, 1), of(far-1, 0, far, 1)},
		{one(api.Offset, -5, 0), of(far-3, 0, far-1, 1), api.Rect{}},
		{one(api.Offset, 0, 5), of(0, 1-far, 1, 3-far), api.Rect{}},
		{one(api.Offset, 5, 0), of(-far, 0, 0, 1), of(-far, 0, -5, 1)},
		{one(api.Offset, 0, -5), of(0, far-8, 1, far), of(0, far-3, 1, far)},
		{one(api.Offset, 1048576, -1048576), all, all},
		{one(api.Blur, 2, 1), of(far-1, 0, far, 1), of(far-3, -1, far, 2)},
		{one(api.Blur, 2, 1), of(0, 1-far, 1, 2-far), of(-2, -far, 3, 3-far)},
		{one(api.Erode, 255, 255), of(-far, -far, 254-far, 255-far), of(-far, -far, 509-far, 510-far)},
		{one(api.Dilate, 255, 255), all, all},
		{matrix(1), all, all},
		{one(api.Merge), all, all},
		{one(api.Clip, -1048576, -1048576, 1048576, 1048576), all, of(-1048576, -1048576, 1048576, 1048576)},
		{one(api.Tile, -1, -2, 3, 4), all, of(-1, -2, 3, 4)},
		{one(api.Tile, 0, 0, 1, 1), of(far-1, far-1, far, far), of(0, 0, 1, 1)},
		// It is moved first and grown then: grown first, it would come to the end of the plane and stay there.
		{shadow(1, 0, 3, 0), of(far-2, 0, far-1, 1), of(far-6, 0, far, 1)},
		{shadow(-1, 0, 1, 0), of(1-far, 0, 2-far, 1), of(1-far, 0, 4-far, 1)},
		// What of it is moved out of the plane is not there to be grown.
		{shadow(0, 1, 0, 9), of(0, -far, 1, 2-far), of(0, -far, 1, 10-far)},
		{shadow(0, 2, 0, 9), of(0, 1-far, 1, 2-far), of(0, 1-far, 1, 2-far)},
		{shadow(2, 2, 1, 1), all, all},
	} {
		if got := Of(e.n, e.want); !slices.Equal(got, []api.Rect{e.need}) {
			t.Error(i, got)
		}
		if nodes, source := All(api.Graph{Nodes: []api.Node{e.n}}, e.want); !slices.Equal(nodes, []api.Rect{e.want}) || source != e.need {
			t.Error(i, nodes, source)
		}
	}
}

// P14.1: the chapter's example, and filters whose nodes stand in any order, of 0 0 1 1.
func TestAll(t *testing.T) {
	w, none := of(0, 0, 1, 1), api.Rect{}
	shift, blur := one(api.Offset, 5, 0), one(api.Blur, 1, 2)
	merge, blend := one(api.Merge), two(api.Blend, 0)
	for i, e := range []struct {
		out    int
		nodes  []api.Node
		want   []api.Rect
		source api.Rect
	}{
		{1, []api.Node{shift, from(blur, 0)}, []api.Rect{of(-1, -2, 2, 3), w}, of(-6, -2, -3, 3)},
		{0, []api.Node{from(blur, 1), shift}, []api.Rect{w, of(-1, -2, 2, 3)}, of(-6, -2, -3, 3)},
		// Out is not the last one; and what isn't needed needs nothing, neither of Source nor of Out.
		{0, []api.Node{shift, from(blur, 0)}, []api.Rect{w, none}, of(-5, 0, -4, 1)},
		{1, []api.Node{shift, blur}, []api.Rect{none, w}, of(-1, -2, 2, 3)},
		{1, []api.Node{from(merge, 1, 2), one(api.Clip, 0, 0, 9, 9), from(one(api.Dilate, 9, 9), 1)}, []api.Rect{none, w, none}, w},
		// Of a node that some have as an input, all of what they need, and what lies between.
		{3, []api.Node{blur, from(shift, 0), from(shift, 1), from(merge, 1, 2, 0)}, []api.Rect{of(-10, 0, 1, 1), of(-5, 0, 1, 1), w, w}, of(-11, -2, 2, 3)},
		{0, []api.Node{from(blend, 1, -1), one(api.Offset, 0, 7)}, []api.Rect{w, w}, of(0, -7, 1, 1)},
		{0, []api.Node{from(blend, -1, 1), one(api.Offset, 0, -7)}, []api.Rect{w, w}, of(0, 0, 1, 8)},
		{1, []api.Node{shift, from(blend, 0, 0)}, []api.Rect{w, w}, of(-5, 0, -4, 1)},
		{2, []api.Node{shift, from(blur, 0), from(blend, 0, 1)}, []api.Rect{of(-1, -2, 2, 3), w, w}, of(-6, -2, -3, 3)},
		{2, []api.Node{shift, from(one(api.Offset, -9, 0), 0), from(blend, 1, 0)}, []api.Rect{of(0, 0, 10, 1), w, w}, of(-5, 0, 5, 1)},
		// A node may be needed, and nothing of it.
		{1, []api.Node{blur, from(one(api.Clip, 2, 2, 9, 9), 0)}, []api.Rect{none, w}, none},
		{2, []api.Node{blur, from(one(api.Clip, 2, 2, 9, 9), 0), from(blend, 1, -1)}, []api.Rect{none, w, w}, w},
		{0, []api.Node{flood()}, []api.Rect{w}, none},
		{1, []api.Node{flood(), from(blur, 0)}, []api.Rect{of(-1, -2, 2, 3), w}, none},
		{1, []api.Node{shift, from(one(api.Tile, 3, 3, 7, 5), 0)}, []api.Rect{of(3, 3, 7, 5), w}, of(-2, 3, 2, 5)},
		{1, []api.Node{shift, from(one(api.Tile, -3, -3, 7, 5), 0)}, []api.Rect{w, w}, of(-5, 0, -4, 1)},
		{1, []api.Node{from(one(api.Tile, -3, -3, 7, 5), 2), from(blur, 0), shift}, []api.Rect{of(-1, -2, 2, 3), w, of(-1, -2, 2, 3)}, of(-6, -2, -3, 3)},
		{0, []api.Node{from(shadow(5, 0, 1, 0), 1), blur}, []api.Rect{w, of(-6, 0, 1, 1)}, of(-7, -2, 2, 3)},
	} {
		g := api.Graph{Nodes: e.nodes, Out: e.out}
		if fault := node.Check(g); fault != api.OK {
			t.Error(i, "is no right filter:", fault)
		}
		if nodes, source := All(g, w); !slices.Equal(nodes, e.want) || source != e.source {
			t.Error(i, nodes, source)
		}
	}
}

// P14.1: as many nodes as there may be, one of the other, the first one last.
func TestLong(t *testing.T) {
	var g api.Graph
	for at := range api.MaxNodes {
		g.Nodes = append(g.Nodes, api.Node{Op: api.Blur, In: []int{at + 1}, P: []int{255, 1}})
	}
	g.Nodes[api.MaxNodes-1].In[0] = api.Source
	if fault := node.Check(g); fault != api.OK {
		t.Fatal(fault)
	}
	nodes, source := All(g, of(0, 0, 1, 1))
	for at, got := range nodes {
		if got != of(-255*at, -at, 255*at+1, at+1) {
			t.Error(at, got)
		}
	}
	if len(nodes) != api.MaxNodes || source != of(-255*256, -256, 255*256+1, 257) {
		t.Error(len(nodes), source)
	}
}

// P14.1: as many nodes as there may be, every other one a Merge of the two ahead: there are more ways to Source than
// could be gone.
func TestManyWays(t *testing.T) {
	var g api.Graph
	for at := range api.MaxNodes {
		n := api.Node{Op: api.Merge, In: slices.Repeat([]int{at - 2, at - 1}, 4)}
		if at == 0 {
			n = one(api.Offset, 1, 0)
		} else if at == 1 || at%2 == 0 {
			n = from(one(api.Offset, 1, 0), at-1)
		}
		g.Nodes = append(g.Nodes, n)
	}
	g.Out = api.MaxNodes - 1
	if fault := node.Check(g); fault != api.OK {
		t.Fatal(fault)
	}
	nodes, source := All(g, of(0, 0, 1, 1))
	if nodes[0] != of(-128, 0, 0, 1) || nodes[1] != of(-127, 0, 1, 1) || source != of(-129, 0, -1, 1) {
		t.Error(nodes[:2], source)
	}
}

// The list is gone through from the last one to the first one, and is left where the loop is.
func TestBackward(t *testing.T) {
	for _, left := range []int{0, 1, 2, 3, 4} {
		var seen []int
		for at := range backward([]int{4, 9, 0, 7}) {
			if len(seen) == left {
				break
			}
			seen = append(seen, at)
		}
		if want := []int{7, 0, 9, 4}[:left]; !slices.Equal(seen, want) {
			t.Error(left, seen)
		}
	}
	for at := range backward(nil) {
		t.Error(at)
	}
}
