package fore

import (
	"math/rand"
	"slices"
	"testing"

	"gouache/api"
	"gouache/node"
	"gouache/rect"
	"gouache/region"
)

const far = api.Far

func chance() *rand.Rand { return rand.New(rand.NewSource(13)) }

func of(x0, y0, x1, y1 int) api.Rect { return api.Rect{X0: x0, Y0: y0, X1: x1, Y1: y1} }

// one answers a node of a kind that has Source alone.
func one(op int, p ...int) api.Node { return api.Node{Op: op, In: []int{api.Source}, P: p} }

// two answers a node of a kind that has Source twice.
func two(op int, p ...int) api.Node {
	return api.Node{Op: op, In: []int{api.Source, api.Source}, P: p}
}

// matrix answers the parameters of a Matrix that changes plain colours, and adds so much to alpha.
func matrix(alpha int) []int {
	m := make([]int, 20)
	m[4], m[6], m[12], m[18], m[19] = 7, 256, 256, 256, alpha
	return m
}

// P13.1: one node of each kind, where its inputs change.
func TestSpread(t *testing.T) {
	dot := api.Region{of(0, 0, 1, 1)}
	ell := api.Region{of(0, 0, 2, 1), of(0, 1, 1, 2)}
	other := api.Region{of(1, 1, 2, 2), of(5, 5, 6, 7)}
	all := api.Region{rect.All()}
	for i, e := range []struct {
		n    api.Node
		l    []api.Region
		want api.Region
	}{
		{one(api.Offset, 5, 0), []api.Region{dot}, api.Region{of(5, 0, 6, 1)}},
		{one(api.Offset, -1048576, 1048576), []api.Region{dot}, api.Region{of(-1048576, 1048576, -1048575, 1048577)}},
		{one(api.Offset, 0, 2), []api.Region{ell}, api.Region{of(0, 2, 2, 3), of(0, 3, 1, 4)}},
		{one(api.Offset, 1, 2), []api.Region{nil}, nil},
		{one(api.Blur, 1, 2), []api.Region{dot}, api.Region{of(-1, -2, 2, 3)}},
		{one(api.Blur, 0, 0), []api.Region{ell}, ell},
		{one(api.Blur, 255, 0), []api.Region{dot}, api.Region{of(-255, 0, 256, 1)}},
		{one(api.Blur, 2, 0), []api.Region{nil}, nil},
		{one(api.Erode, 1, 0), []api.Region{ell}, api.Region{of(-1, 0, 3, 1), of(-1, 1, 2, 2)}},
		{one(api.Erode, 0, 3), []api.Region{dot}, api.Region{of(0, -3, 1, 4)}},
		{one(api.Dilate, 0, 1), []api.Region{ell}, api.Region{of(0, -1, 2, 2), of(0, 2, 1, 3)}},
		{one(api.Matrix, matrix(0)...), []api.Region{ell}, ell},
		{one(api.Matrix, matrix(9)...), []api.Region{ell}, ell},
		{one(api.Matrix, matrix(9)...), []api.Region{nil}, nil},
		{api.Node{Op: api.Flood, P: []int{1, 2, 3, 4, 0, 0, 9, 9}}, nil, nil},
		{two(api.Blend, 3), []api.Region{ell, other}, api.Region{of(0, 0, 2, 2), of(5, 5, 6, 7)}},
		{two(api.Blend, 0), []api.Region{nil, other}, other},
		{two(api.Blend, 0), []api.Region{ell, nil}, ell},
		// An operator that shows nothing of an input is as any other.
		{two(api.Composite, api.Clear), []api.Region{ell, other}, api.Region{of(0, 0, 2, 2), of(5, 5, 6, 7)}},
		{two(api.Composite, api.In), []api.Region{nil, nil}, nil},
		{api.Node{Op: api.Merge, In: []int{-1}}, []api.Region{ell}, ell},
		{api.Node{Op: api.Merge, In: []int{-1, -1, -1}}, []api.Region{ell, other, {of(6, 5, 7, 7)}}, api.Region{of(0, 0, 2, 2), of(5, 5, 7, 7)}},
		{one(api.Clip, 1, 0, 9, 9), []api.Region{ell}, api.Region{of(1, 0, 2, 1)}},
		{one(api.Clip, 2, 0, 9, 9), []api.Region{ell}, nil},
		{one(api.Clip, -9, -9, 9, 9), []api.Region{ell}, ell},
		{one(api.Clip, 0, 0, 0, 9), []api.Region{ell}, nil},
		{one(api.Clip, 9, 9, 0, 0), []api.Region{ell}, nil},
		{one(api.Tile, 1, 0, 9, 9), []api.Region{ell}, all},
		{one(api.Tile, 1, 1, 9, 9), []api.Region{ell}, nil},
		{one(api.Tile, -4, -4, 1, 1), []api.Region{ell}, all},
		{one(api.Tile, -4, -4, 0, 0), []api.Region{ell}, nil},
		{one(api.Tile, 0, 0, 1, 1), []api.Region{nil}, nil},
		{one(api.Shadow, 5, 0, 1, 0, 0, 0, 0, 255), []api.Region{dot}, api.Region{of(0, 0, 1, 1), of(4, 0, 7, 1)}},
		{one(api.Shadow, 0, 0, 0, 2, 0, 0, 0, 255), []api.Region{dot}, api.Region{of(0, -2, 1, 3)}},
		// A shadow that is nothing is as any other.
		{one(api.Shadow, 0, 3, 0, 0, 0, 0, 0, 0), []api.Region{dot}, api.Region{of(0, 0, 1, 1), of(0, 3, 1, 4)}},
		{one(api.Shadow, 5, 0, 1, 0, 0, 0, 0, 255), []api.Region{nil}, nil},
	} {
		if fault := node.One(e.n, 0); fault != api.OK || len(e.l) != len(e.n.In) {
			t.Error(i, "is no right node:", fault)
		}
		if got := Spread(e.n, e.l); !slices.Equal(got, e.want) {
			t.Error(i, got)
		}
	}
}

// P13.1: one node of each kind, where its inputs may be something.
func TestReach(t *testing.T) {
	dot, box, away := of(0, 0, 1, 1), of(1, 2, 4, 4), of(7, 0, 8, 9)
	all, none := rect.All(), api.Rect{}
	for i, e := range []struct {
		n    api.Node
		l    []api.Rect
		want api.Rect
	}{
		{one(api.Offset, 5, 0), []api.Rect{dot}, of(5, 0, 6, 1)},
		{one(api.Offset, -1048576, 1048576), []api.Rect{box}, of(-1048575, 1048578, -1048572, 1048580)},
		{one(api.Blur, 1, 2), []api.Rect{dot}, of(-1, -2, 2, 3)},
		{one(api.Blur, 0, 255), []api.Rect{box}, of(1, -253, 4, 259)},
		{one(api.Erode, 1, 2), []api.Rect{box}, box},
		{one(api.Dilate, 3, 1), []api.Rect{box}, of(-2, 1, 7, 5)},
		{one(api.Matrix, matrix(0)...), []api.Rect{box}, box},
		{one(api.Matrix, matrix(-5)...), []api.Rect{box}, box},
		{one(api.Matrix, matrix(1)...), []api.Rect{box}, all},
		{one(api.Matrix, matrix(1)...), []api.Rect{none}, all},
		{api.Node{Op: api.Flood, P: []int{0, 0, 0, 9, 5, 5, 6, 6}}, nil, of(5, 5, 6, 6)},
		{api.Node{Op: api.Flood, P: []int{9, 0, 0, 9, 5, 5, 6, 6}}, nil, of(5, 5, 6, 6)},
		{api.Node{Op: api.Flood, P: []int{0, 0, 0, 0, 5, 5, 6, 6}}, nil, none},
		{api.Node{Op: api.Flood, P: []int{0, 0, 0, 9, 5, 5, 5, 6}}, nil, none},
		{api.Node{Op: api.Flood, P: []int{0, 0, 0, 9, 5, 6, 6, 5}}, nil, none},
		{two(api.Blend, 1), []api.Rect{box, away}, of(1, 0, 8, 9)},
		{two(api.Blend, 0), []api.Rect{none, away}, away},
		{two(api.Composite, api.Clear), []api.Rect{box, away}, of(1, 0, 8, 9)},
		{two(api.Composite, api.In), []api.Rect{box, none}, box},
		{api.Node{Op: api.Merge, In: []int{-1}}, []api.Rect{box}, box},
		{api.Node{Op: api.Merge, In: []int{-1, -1, -1}}, []api.Rect{dot, away, box}, of(0, 0, 8, 9)},
		{one(api.Clip, 2, 0, 9, 3), []api.Rect{box}, of(2, 2, 4, 3)},
		{one(api.Clip, 4, 0, 9, 9), []api.Rect{box}, none},
		{one(api.Clip, 9, 0, 2, 9), []api.Rect{box}, none},
		{one(api.Tile, 3, 3, 9, 9), []api.Rect{box}, all},
		{one(api.Tile, 4, 3, 9, 9), []api.Rect{box}, none},
		{one(api.Tile, -4, -4, 1, 2), []api.Rect{box}, none},
		{one(api.Shadow, 5, 0, 1, 2, 0, 0, 0, 255), []api.Rect{dot}, of(0, -2, 7, 3)},
		{one(api.Shadow, 0, -3, 0, 0, 0, 0, 0, 0), []api.Rect{dot}, of(0, -3, 1, 1)},
	} {
		if fault := node.One(e.n, 0); fault != api.OK || len(e.l) != len(e.n.In) {
			t.Error(i, "is no right node:", fault)
		}
		if got := Reach(e.n, e.l); got != e.want {
			t.Error(i, got)
		}
	}
}

// P13.1: a rectangle without points counts as Rect{}, whatever its edges are.
func TestEmpty(t *testing.T) {
	for _, r := range []api.Rect{{}, of(5, 5, 5, 9), of(5, 5, 9, 5), of(9, 9, 2, 2), of(far, -far, -far, far), of(0, far, 1, far)} {
		for _, n := range []api.Node{
			one(api.Offset, 1, 1), one(api.Blur, 2, 2), one(api.Erode, 2, 2), one(api.Dilate, 9, 9), one(api.Matrix, matrix(0)...),
			one(api.Tile, 4, 4, 10, 10), one(api.Clip, 4, 4, 10, 10), one(api.Shadow, 1, 1, 9, 9, 0, 0, 0, 9), {Op: api.Merge, In: []int{-1}},
		} {
			if got := Reach(n, []api.Rect{r}); got != (api.Rect{}) {
				t.Error(n.Op, r, got)
			}
			if got := ReachAll(api.Graph{Nodes: []api.Node{n}}, r); got != (api.Rect{}) {
				t.Error(n.Op, r, got)
			}
		}
		for _, n := range []api.Node{two(api.Blend, 0), two(api.Composite, 0), two(api.Merge)} {
			if got := Reach(n, []api.Rect{r, of(6, 6, 7, 7)}); got != of(6, 6, 7, 7) {
				t.Error(n.Op, r, got)
			}
			if got := Reach(n, []api.Rect{r, r}); got != (api.Rect{}) {
				t.Error(n.Op, r, got)
			}
		}
	}
}

// P13.1: what comes to an end of the plane is cut there, and an edge there stays when it is moved.
func TestEnds(t *testing.T) {
	for i, e := range []struct {
		n        api.Node
		in, want api.Rect
	}{
		{one(api.Offset, 2, 0), of(far-3, 0, far-1, 1), of(far-1, 0, far, 1)},
		{one(api.Offset, 5, 0), of(far-3, 0, far-1, 1), api.Rect{}},
		{one(api.Offset, 0, -5), of(0, -far+1, 1, -far+3), api.Rect{}},
		{one(api.Offset, 5, 0), of(-far, 0, 0, 1), of(-far, 0, 5, 1)},
		{one(api.Offset, 0, -5), of(0, far-3, 1, far), of(0, far-8, 1, far)},
		{one(api.Offset, 1048576, -1048576), rect.All(), rect.All()},
		{one(api.Blur, 2, 1), of(far-1, 0, far, 1), of(far-3, -1, far, 2)},
		{one(api.Blur, 2, 1), of(0, 1-far, 1, 2-far), of(-2, -far, 3, 3-far)},
		{one(api.Dilate, 255, 255), rect.All(), rect.All()},
		{one(api.Clip, -1048576, -1048576, 1048576, 1048576), rect.All(), of(-1048576, -1048576, 1048576, 1048576)},
		{one(api.Tile, 0, 0, 1, 1), rect.All(), rect.All()},
		{one(api.Tile, 0, 0, 1, 1), of(1, -far, far, far), api.Rect{}},
		// It is moved first and grown then: grown first, it would come to the end of the plane and stay there.
		{one(api.Shadow, -1, 0, 3, 0, 0, 0, 0, 9), of(far-2, 0, far-1, 1), of(far-6, 0, far, 1)},
		{one(api.Shadow, 1, 0, 1, 0, 0, 0, 0, 9), of(1-far, 0, 2-far, 1), of(1-far, 0, 4-far, 1)},
		{one(api.Shadow, 2, 2, 1, 1, 0, 0, 0, 9), rect.All(), rect.All()},
	} {
		if got := Spread(e.n, []api.Region{region.Of(e.in)}); !slices.Equal(got, region.Of(e.want)) {
			t.Error(i, got)
		}
		if got := Reach(e.n, []api.Rect{e.in}); got != e.want {
			t.Error(i, got)
		}
	}
	shadow := one(api.Shadow, -5, 0, 1, 0, 0, 0, 0, 9)
	if got := Spread(shadow, []api.Region{{of(far-2, 0, far-1, 1)}}); !slices.Equal(got, api.Region{of(far-8, 0, far-5, 1), of(far-2, 0, far-1, 1)}) {
		t.Error(got)
	}
	halves := api.Region{of(-far, 0, 0, 1), of(3, 0, far, 1)}
	if got := Spread(one(api.Offset, 7, 1), []api.Region{halves}); !slices.Equal(got, api.Region{of(-far, 1, 7, 2), of(10, 1, far, 2)}) {
		t.Error(got)
	}
	if got := Spread(one(api.Erode, 1, 0), []api.Region{halves}); !slices.Equal(got, api.Region{of(-far, 0, 1, 1), of(2, 0, far, 1)}) {
		t.Error(got)
	}
}

// P13.1: the chapter's example, and filters whose nodes stand in any order.
func TestOver(t *testing.T) {
	shift := one(api.Offset, 5, 0)
	blur := func(in int) api.Node { return api.Node{Op: api.Blur, In: []int{in}, P: []int{1, 2}} }
	from := func(n api.Node, in ...int) api.Node { return api.Node{Op: n.Op, In: in, P: n.P} }
	for i, e := range []struct {
		out    int
		nodes  []api.Node
		spread api.Region
		reach  api.Rect
	}{
		{1, []api.Node{shift, blur(0)}, api.Region{of(4, -2, 7, 3)}, of(4, -2, 7, 3)},
		{0, []api.Node{blur(1), shift}, api.Region{of(4, -2, 7, 3)}, of(4, -2, 7, 3)},
		// Out is not the last one; and what isn't needed is left out.
		{0, []api.Node{shift, blur(0)}, api.Region{of(5, 0, 6, 1)}, of(5, 0, 6, 1)},
		{1, []api.Node{shift, blur(-1)}, api.Region{of(-1, -2, 2, 3)}, of(-1, -2, 2, 3)},
		{0, []api.Node{from(two(api.Merge), -1, 1, 2), shift, from(shift, 1)}, api.Region{of(0, 0, 1, 1), of(5, 0, 6, 1), of(10, 0, 11, 1)}, of(0, 0, 11, 1)},
		{2, []api.Node{shift, {Op: api.Flood, P: []int{0, 0, 0, 9, 7, 7, 8, 8}}, from(two(api.Blend, 0), 0, 1)}, api.Region{of(5, 0, 6, 1)}, of(5, 0, 8, 8)},
		{1, []api.Node{shift, from(one(api.Tile, 0, 0, 5, 5), 0)}, nil, api.Rect{}},
		{1, []api.Node{shift, from(one(api.Tile, 0, 0, 6, 6), 0)}, api.Region{rect.All()}, rect.All()},
		{1, []api.Node{one(api.Matrix, matrix(9)...), from(one(api.Clip, 0, 0, 3, 3), 0)}, api.Region{of(0, 0, 1, 1)}, of(0, 0, 3, 3)},
	} {
		g := api.Graph{Nodes: e.nodes, Out: e.out}
		if fault := node.Check(g); fault != api.OK {
			t.Error(i, "is no right filter:", fault)
		}
		if got := SpreadAll(g, api.Region{of(0, 0, 1, 1)}); !slices.Equal(got, e.spread) {
			t.Error(i, got)
		}
		if got := ReachAll(g, of(0, 0, 1, 1)); got != e.reach {
			t.Error(i, got)
		}
	}
}

// P13.1: as many nodes as there may be, one of the other, the first one last.
func TestLong(t *testing.T) {
	var g api.Graph
	for at := range api.MaxNodes {
		g.Nodes = append(g.Nodes, api.Node{Op: api.Blur, In: []int{at + 1}, P: []int{255, 1}})
	}
	g.Nodes[api.MaxNodes-1].In[0] = api.Source
	want := of(-255*256, -256, 255*256+1, 257)
	if got := SpreadAll(g, api.Region{of(0, 0, 1, 1)}); !slices.Equal(got, api.Region{want}) {
		t.Error(got)
	}
	if got := ReachAll(g, of(0, 0, 1, 1)); got != want {
		t.Error(got)
	}
}

// P13.1: a node that isn't needed is not gone into, for of a hundred Shadows of one another none would see the end.
func TestUnneeded(t *testing.T) {
	g := api.Graph{Nodes: []api.Node{one(api.Offset, 1, 1)}}
	c := chance()
	for range 100 {
		g.Nodes = append(g.Nodes, api.Node{Op: api.Shadow, In: []int{len(g.Nodes) - 1}, P: []int{c.Intn(1 << 20), c.Intn(1 << 20), 1, 1, 0, 0, 0, 9}})
	}
	if fault := node.Check(g); fault != api.OK {
		t.Fatal(fault)
	}
	if got := SpreadAll(g, api.Region{of(0, 0, 1, 1)}); !slices.Equal(got, api.Region{of(1, 1, 2, 2)}) {
		t.Error(got)
	}
	if got := ReachAll(g, of(0, 0, 1, 1)); got != of(1, 1, 2, 2) {
		t.Error(got)
	}
}
