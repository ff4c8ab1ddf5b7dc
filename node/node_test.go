package node

import (
	"math"
	"math/rand"
	"slices"
	"testing"

	"gouache/api"
)

// of answers a node of a kind with these inputs and parameters.
func of(op int, in []int, p ...int) api.Node { return api.Node{Op: op, In: in, P: p} }

// source answers the inputs of a node that has Source alone.
func source() []int { return []int{api.Source} }

// kinds answers the chapter's numbers of each kind: least and most inputs, and parameters; the first one is no kind.
func kinds() [13][3]int {
	return [13][3]int{
		{}, {1, 1, 2}, {1, 1, 2}, {1, 1, 2}, {1, 1, 2}, {1, 1, 20}, {0, 0, 8}, {2, 2, 1}, {2, 2, 1}, {1, 8, 0}, {1, 1, 4}, {1, 1, 8}, {1, 1, 4},
	}
}

// good answers a right node of a kind, with the least number of inputs, all of them Source.
func good(op int) api.Node {
	n := api.Node{Op: op, P: make([]int, kinds()[op][2])}
	for range kinds()[op][0] {
		n.In = append(n.In, api.Source)
	}
	if op == api.Tile {
		n.P[2], n.P[3] = 1, 1
	}
	return n
}

func between(n, least, most int) bool { return n >= least && n <= most }

// wordBound says whether parameters are within bounds, by the chapter's words.
func wordBound(op int, p []int) bool {
	coords := func(l []int) bool {
		for _, n := range l {
			if !between(n, -1048576, 1048576) {
				return false
			}
		}
		return true
	}
	radii := func(l []int) bool { return between(l[0], 0, 255) && between(l[1], 0, 255) }
	pixel := func(l []int) bool {
		alpha := l[3]
		return between(alpha, 0, 255) && between(l[0], 0, alpha) && between(l[1], 0, alpha) && between(l[2], 0, alpha)
	}
	switch op {
	case 1:
		return coords(p)
	case 2, 3, 4:
		return radii(p)
	case 5:
		return !slices.ContainsFunc(p, func(n int) bool { return !between(n, -32768, 32767) })
	case 6:
		return pixel(p[:4]) && coords(p[4:])
	case 7:
		return between(p[0], 0, 6)
	case 8:
		return between(p[0], 0, 5)
	case 10:
		return coords(p) && between(p[2]-p[0], 1, 4096) && between(p[3]-p[1], 1, 4096)
	case 11:
		return coords(p[:2]) && radii(p[2:4]) && pixel(p[4:])
	case 12:
		return coords(p)
	}
	return true
}

// wordOne answers what the chapter's words say of a node.
func wordOne(n api.Node, count int) api.Errno {
	if !between(n.Op, 1, 12) {
		return api.ErrArg
	}
	kind := kinds()[n.Op]
	if !between(len(n.In), kind[0], kind[1]) || len(n.P) != kind[2] {
		return api.ErrArity
	}
	for _, in := range n.In {
		if in != -1 && !between(in, 0, count-1) {
			return api.ErrInput
		}
	}
	if !wordBound(n.Op, n.P) {
		return api.ErrBound
	}
	return api.OK
}

// wordRound says whether a node comes from itself: takes away, as long as there is one, a node without inputs.
func wordRound(g api.Graph) bool {
	gone := make([]bool, len(g.Nodes))
	for range g.Nodes {
		for at, n := range g.Nodes {
			gone[at] = !slices.ContainsFunc(n.In, func(in int) bool { return in >= 0 && !gone[in] })
		}
	}
	return slices.Contains(gone, false)
}

// wordCheck answers what the chapter's words say of a filter.
func wordCheck(g api.Graph) api.Errno {
	if !between(len(g.Nodes), 1, 256) {
		return api.ErrBound
	}
	for _, n := range g.Nodes {
		if e := wordOne(n, len(g.Nodes)); e != api.OK {
			return e
		}
	}
	if !between(g.Out, 0, len(g.Nodes)-1) {
		return api.ErrInput
	}
	if wordRound(g) {
		return api.ErrLoop
	}
	return api.OK
}

func chance() *rand.Rand { return rand.New(rand.NewSource(12)) }

// edges answers numbers beside and at all bounds.
func edges() []int {
	list := []int{math.MinInt, math.MinInt + 1, math.MaxInt, math.MaxInt - 1}
	for _, n := range []int{0, 1, 5, 6, 7, 255, 256, 4096, 32767, 32768, 1 << 20, 1 << 32, 1<<32 + 1, 1 << 62} {
		list = append(list, n-1, n, n+1, 1-n, -n, -1-n)
	}
	return list
}

// number answers one that is within many bounds, or at the edge of one.
func number(c *rand.Rand) int {
	if l := edges(); c.Intn(12) == 0 {
		return l[c.Intn(len(l))]
	}
	return c.Intn(4)
}

// draw answers a node that is often right, in a filter of so many.
func draw(c *rand.Rand, count int) api.Node {
	n := good(1 + c.Intn(12))
	if n.Op == api.Merge {
		n.In = make([]int, 1+c.Intn(8))
	}
	for i := range n.In {
		n.In[i] = c.Intn(count+1) - 1
		if c.Intn(20) == 0 {
			n.In[i] = []int{-2, count, count + 1, math.MinInt, math.MaxInt}[c.Intn(5)]
		}
	}
	for i := range n.P {
		if c.Intn(3) == 0 {
			n.P[i] = number(c)
		}
	}
	switch c.Intn(20) {
	case 0:
		n.Op = c.Intn(18) - 2
	case 1:
		n.P = append(n.P, 0)
	case 2:
		n.P = n.P[:len(n.P)/2]
	case 3:
		n.In = append(n.In, 0)
	case 4:
		n.In = n.In[:len(n.In)/2]
	}
	return n
}

// P12.1: each kind's numbers, and that there are no others.
func TestArity(t *testing.T) {
	for op, kind := range kinds() {
		least, most, params, ok := Arity(op)
		if [3]int{least, most, params} != kind || ok != (op > 0) {
			t.Error(op, least, most, params, ok)
		}
	}
	for _, op := range []int{13, 14, 256 + 1, -1, -12, 1 << 32, 1<<32 + 1, math.MaxInt, math.MinInt, math.MinInt + 1} {
		least, most, params, ok := Arity(op)
		if least != 0 || most != 0 || params != 0 || ok {
			t.Error(op, least, most, params, ok)
		}
		if e := One(api.Node{Op: op}, 1); e != api.ErrArg {
			t.Error(op, e)
		}
	}
	if api.MaxMerge != 8 {
		t.Error("a Merge's most inputs are written as 8 here")
	}
}

// P12.1 and P12.2: the chapter's examples.
func TestExamples(t *testing.T) {
	for _, e := range []struct {
		n    api.Node
		want api.Errno
	}{
		{of(api.Blur, source(), 3, 3), api.OK},
		{of(api.Blur, source(), 3, 256), api.ErrBound},
		{of(api.Blur, source(), 256, 3), api.ErrBound},
		{of(api.Blur, source(), 3), api.ErrArity},
		{of(api.Blur, []int{5}, 3, 3), api.ErrInput},
	} {
		if got := One(e.n, 2); got != e.want {
			t.Error("One", e.n, got)
		}
		if got := Check(api.Graph{Nodes: []api.Node{e.n, of(api.Blur, source(), 3, 3)}}); got != e.want {
			t.Error("Check", e.n, got)
		}
	}
	self := of(api.Blur, []int{0}, 3, 3)
	if got := One(self, 1); got != api.OK {
		t.Error("of itself, alone", got)
	}
	if got := Check(api.Graph{Nodes: []api.Node{self}}); got != api.ErrLoop {
		t.Error("of itself", got)
	}
}

// P12.1: how many inputs and parameters each kind may have.
func TestCounts(t *testing.T) {
	for op := 1; op <= 12; op++ {
		kind := kinds()[op]
		for ins := range 12 {
			for params := range 24 {
				n := good(op)
				n.In = make([]int, ins)
				n.P = slices.Concat(n.P, make([]int, 24))[:params]
				want := api.ErrArity
				if kind[0] <= ins && ins <= kind[1] && params == kind[2] {
					want = api.OK
				}
				if got := One(n, 1); got != want {
					t.Error(op, ins, params, got)
				}
			}
		}
	}
}

// P12.1: each input of each kind, with others that are right, and with none that can be.
func TestInputs(t *testing.T) {
	for op := 1; op <= 12; op++ {
		for at := range kinds()[op][1] {
			for _, count := range []int{0, 1, 2, 3, 256, 1000} {
				for _, in := range []int{-1, 0, 1, 2, 3, 255, 256, 999, 1000, -2, -3, 1 << 32, 1<<32 - 1, math.MaxInt, math.MinInt} {
					n := good(op)
					n.In = make([]int, kinds()[op][1])
					for i := range n.In {
						n.In[i] = api.Source
					}
					n.In[at] = in
					if got, want := One(n, count), wordOne(n, count); got != want {
						t.Error(op, at, count, in, got)
					}
				}
			}
		}
	}
	for _, count := range []int{-1, -5, math.MinInt} {
		if got := One(of(api.Merge, []int{api.Source}), count); got != api.OK {
			t.Error("Source of none", got)
		}
		if got := One(of(api.Merge, []int{0}), count); got != api.ErrInput {
			t.Error("a place of none", got)
		}
	}
}

// P12.1: each parameter of each kind at and beside all bounds, and each two.
func TestBounds(t *testing.T) {
	for op := 1; op <= 12; op++ {
		n := good(op)
		for i := range n.P {
			for j := range i + 1 {
				for _, a := range edges() {
					for _, b := range edges() {
						n = good(op)
						n.P[i], n.P[j] = a, b
						if got, want := One(n, 0), wordOne(n, 0); got != want {
							t.Fatalf("%d: parameters %d and %d are %d and %d: %d, want %d", op, j, i, b, a, got, want)
						}
						if op == api.Matrix {
							// Each number is asked alone: one other suffices.
							break
						}
					}
				}
			}
		}
	}
}

// P12.1: bounds of two parameters together: pixels, and a Tile's sides wherever it is.
func TestTogether(t *testing.T) {
	for _, start := range []int{0, 4} {
		op := api.Flood
		if start == 4 {
			op = api.Shadow
		}
		for _, p := range [][4]int{{0, 0, 0, 0}, {9, 9, 9, 9}, {255, 255, 255, 255}, {10, 9, 9, 9}, {9, 10, 9, 9}, {9, 9, 10, 9}, {255, 0, 0, 254}, {0, 0, 1, 0}, {256, 0, 0, 255}, {-1, 0, 0, 255}, {0, 256, 0, 255}, {0, 0, -256, 255}, {0, 0, 0, 256}, {0, 0, 0, 511}, {1, 1, 1, -1}, {0, 0, 0, -256}, {1 << 32, 0, 0, 255}} {
			n := good(op)
			copy(n.P[start:], p[:])
			if got, want := One(n, 0), wordOne(n, 0); got != want {
				t.Error(op, p, got)
			}
		}
	}
	const far = api.MaxCoord
	for _, e := range []struct {
		p    [4]int
		want api.Errno
	}{
		{[4]int{0, 0, 1, 1}, api.OK},
		{[4]int{-far, -far, -far + 4096, -far + 4096}, api.OK},
		{[4]int{far - 4096, far - 1, far, far}, api.OK},
		{[4]int{-far, 0, -far + 4097, 1}, api.ErrBound},
		{[4]int{0, -far, 1, -far + 4097}, api.ErrBound},
		{[4]int{far - 1, 0, far + 1, 1}, api.ErrBound},
		{[4]int{0, -far - 1, 1, -far}, api.ErrBound},
		{[4]int{5, 5, 5, 6}, api.ErrBound},
		{[4]int{5, 5, 6, 5}, api.ErrBound},
		{[4]int{6, 5, 5, 6}, api.ErrBound},
		{[4]int{5, 6, 6, 5}, api.ErrBound},
		{[4]int{6, 6, 5, 5}, api.ErrBound},
		{[4]int{math.MinInt, 0, math.MaxInt, 1}, api.ErrBound},
		{[4]int{math.MaxInt, 0, math.MinInt, 1}, api.ErrBound},
	} {
		if got := One(of(api.Tile, source(), e.p[:]...), 0); got != e.want {
			t.Error("Tile", e.p, got)
		}
		want := api.OK
		if slices.ContainsFunc(e.p[:], func(n int) bool { return !between(n, -far, far) }) {
			want = api.ErrBound
		}
		// Clip and Flood may be empty, and of any size.
		if got := One(of(api.Clip, source(), e.p[:]...), 0); got != want {
			t.Error("Clip", e.p, got)
		}
		if got := One(of(api.Flood, nil, append([]int{0, 0, 0, 0}, e.p[:]...)...), 0); got != want {
			t.Error("Flood", e.p, got)
		}
	}
}

// P12.1: where several faults are, the first one told is the answer.
func TestOneFirst(t *testing.T) {
	for _, e := range []struct {
		n    api.Node
		want api.Errno
	}{
		{of(13, []int{9, 9, 9}, 1<<40), api.ErrArg},
		{of(0, source(), 1, 1), api.ErrArg},
		{of(api.Blur, []int{9, 9}, 256, 256), api.ErrArity},
		{of(api.Blur, []int{9}, 256), api.ErrArity},
		{of(api.Blur, nil, 1, 1), api.ErrArity},
		{of(api.Blur, []int{9}, 256, 256), api.ErrInput},
		{of(api.Blur, []int{-2}, 1, 1), api.ErrInput},
		{of(api.Blur, []int{1}, 256, 256), api.ErrBound},
	} {
		if got := One(e.n, 2); got != e.want {
			t.Error(e.n, got)
		}
	}
}

// P12.1: nodes of all sorts against the chapter's words.
func TestOneMixed(t *testing.T) {
	c := chance()
	seen := map[api.Errno]int{}
	for range 60000 {
		count := c.Intn(4)
		n := draw(c, count)
		got := One(n, count)
		seen[got]++
		if want := wordOne(n, count); got != want {
			t.Fatalf("One(%v, %d): %d, want %d", n, count, got, want)
		}
	}
	for _, e := range []api.Errno{api.OK, api.ErrArg, api.ErrArity, api.ErrInput, api.ErrBound} {
		if seen[e] < 200 {
			t.Error(e, "is seen", seen[e], "times")
		}
	}
}

// chain answers a filter of count Blurs, one of the other.
func chain(count int) api.Graph {
	g := api.Graph{Out: count - 1}
	for at := range count {
		g.Nodes = append(g.Nodes, of(api.Blur, []int{at - 1}, 1, 1))
	}
	return g
}

// P12.2: how many nodes there may be, and that this is asked first.
func TestNodes(t *testing.T) {
	for _, e := range []struct {
		g    api.Graph
		want api.Errno
	}{
		{api.Graph{}, api.ErrBound},
		{api.Graph{Nodes: []api.Node{}, Out: 5}, api.ErrBound},
		{chain(1), api.OK},
		{chain(255), api.OK},
		{chain(256), api.OK},
		{chain(257), api.ErrBound},
		{api.Graph{Nodes: make([]api.Node, 256), Out: 999}, api.ErrArg},
		{api.Graph{Nodes: make([]api.Node, 257), Out: 999}, api.ErrBound},
		{api.Graph{Nodes: make([]api.Node, 1<<17)}, api.ErrBound},
	} {
		if got := Check(e.g); got != e.want {
			t.Error(len(e.g.Nodes), e.g.Out, got)
		}
	}
}

// P12.2: the first fault, node by node; then Out; then the way round.
func TestCheckFirst(t *testing.T) {
	blur := func(in int) api.Node { return of(api.Blur, []int{in}, 1, 1) }
	bound, arity, input, arg := of(api.Blur, source(), 1, -1), of(api.Blur, nil, 1, 1), blur(3), of(0, nil)
	for i, e := range []struct {
		out   int
		want  api.Errno
		nodes []api.Node
	}{
		{9, api.ErrBound, []api.Node{bound, arg, arity}},
		{9, api.ErrArity, []api.Node{arity, arg, bound}},
		{9, api.ErrInput, []api.Node{input, arg, arity}},
		{9, api.ErrArg, []api.Node{arg, bound, bound}},
		{9, api.ErrBound, []api.Node{blur(0), bound, arg}},
		{0, api.ErrArg, []api.Node{blur(-1), blur(1), arg}},
		// A node that isn't needed is asked as well.
		{0, api.ErrBound, []api.Node{blur(-1), blur(0), bound}},
		{0, api.ErrLoop, []api.Node{blur(-1), blur(2), blur(1)}},
		// Out ahead of the way round.
		{3, api.ErrInput, []api.Node{blur(1), blur(0), blur(-1)}},
		{-1, api.ErrInput, []api.Node{blur(-1), blur(-1), blur(-1)}},
		{math.MinInt, api.ErrInput, []api.Node{blur(-1)}},
		{math.MaxInt, api.ErrInput, []api.Node{blur(-1)}},
		{1 << 32, api.ErrInput, []api.Node{blur(-1)}},
		{0, api.ErrLoop, []api.Node{blur(1), blur(2), blur(0)}},
		{0, api.OK, []api.Node{blur(1), blur(2), blur(-1)}},
		{1, api.OK, []api.Node{blur(2), blur(2), blur(-1)}},
		{0, api.OK, []api.Node{of(api.Merge, []int{1, 1, 2, -1}), of(api.Blend, []int{2, 2}, 6), of(api.Flood, nil, 0, 0, 0, 0, 5, 5, 0, 0)}},
	} {
		if got := Check(api.Graph{Nodes: e.nodes, Out: e.out}); got != e.want {
			t.Error(i, got)
		}
	}
}

// P12.2: filters of all sorts against the chapter's words.
func TestCheckMixed(t *testing.T) {
	c := chance()
	seen := map[api.Errno]int{}
	for range 60000 {
		g := api.Graph{Nodes: make([]api.Node, c.Intn(6))}
		g.Out = c.Intn(len(g.Nodes)+2) - 1
		for at := range g.Nodes {
			g.Nodes[at] = draw(c, len(g.Nodes))
			if c.Intn(4) > 0 {
				g.Nodes[at] = of(api.Merge, []int{c.Intn(len(g.Nodes)+1) - 1, c.Intn(at+1) - 1})
			}
		}
		got := Check(g)
		seen[got]++
		if want := wordCheck(g); got != want {
			t.Fatalf("Check(%v): %d, want %d", g, got, want)
		}
	}
	for _, e := range []api.Errno{api.OK, api.ErrArg, api.ErrArity, api.ErrInput, api.ErrBound, api.ErrLoop} {
		if seen[e] < 200 {
			t.Error(e, "is seen", seen[e], "times")
		}
	}
}

// P12.3: what is handed in stays, and the spare room behind it too.
func TestStays(t *testing.T) {
	c := chance()
	for range 3000 {
		count := c.Intn(4)
		g := api.Graph{Nodes: make([]api.Node, count, count+1), Out: c.Intn(count + 1)}
		g.Nodes[:count+1][count] = of(99, []int{98}, 97)
		var was []api.Node
		for at := range count {
			n := draw(c, count)
			in, p := append(slices.Clone(n.In), 77, 78), append(slices.Clone(n.P), 79, 80)
			was = append(was, api.Node{Op: n.Op, In: slices.Clone(in), P: slices.Clone(p)})
			g.Nodes[at] = api.Node{Op: n.Op, In: in[:len(n.In)], P: p[:len(n.P)]}
		}
		out := g.Out
		for at := range count {
			One(g.Nodes[at], count)
		}
		first := Check(g)
		if again := Check(g); again != first {
			t.Fatalf("%v: %d, then %d", g, first, again)
		}
		for at, n := range was {
			got := g.Nodes[at]
			if got.Op != n.Op || !slices.Equal(got.In[:len(n.In)], n.In) || !slices.Equal(got.P[:len(n.P)], n.P) {
				t.Fatalf("%v is changed to %v", n, got)
			}
		}
		if spare := g.Nodes[:count+1][count]; g.Out != out || spare.Op != 99 || spare.In[0] != 98 || spare.P[0] != 97 {
			t.Fatal("the filter is changed")
		}
	}
}
