package order

import (
	"math"
	"math/rand"
	"slices"
	"testing"

	"gouache/api"
)

// graph answers a filter of nodes that have these inputs.
func graph(out int, ins ...[]int) api.Graph {
	g := api.Graph{Out: out}
	for _, in := range ins {
		g.Nodes = append(g.Nodes, api.Node{In: in})
	}
	return g
}

// isInput answers whether a node's place is an input of the node at.
func isInput(g api.Graph, in, at int) bool { return slices.Contains(g.Nodes[at].In, in) }

// wordRound answers whether a node comes from itself, input by input.
func wordRound(g api.Graph) bool {
	n := len(g.Nodes)
	from := make([][]bool, n)
	for at := range n {
		from[at] = make([]bool, n)
		for in := range n {
			from[at][in] = isInput(g, in, at)
		}
	}
	for by := range n {
		for at := range n {
			for in := range n {
				from[at][in] = from[at][in] || from[at][by] && from[by][in]
			}
		}
	}
	for at := range n {
		if from[at][at] {
			return true
		}
	}
	return false
}

// wordAll answers the order, step by step.
func wordAll(g api.Graph) []int {
	var list []int
	lacks := func(at int) bool {
		for in := range g.Nodes {
			if isInput(g, in, at) && !slices.Contains(list, in) {
				return true
			}
		}
		return false
	}
	for at := 0; at < len(g.Nodes); {
		if slices.Contains(list, at) || lacks(at) {
			at++
			continue
		}
		list = append(list, at)
		at = 0
	}
	return list
}

// wordNeeded answers what is needed, until no more is found.
func wordNeeded(g api.Graph) []bool {
	needed := make([]bool, len(g.Nodes))
	for more := true; more; {
		more = false
		for at := range needed {
			is := at == g.Out
			for user := range needed {
				is = is || needed[user] && isInput(g, at, user)
			}
			more = more || is && !needed[at]
			needed[at] = is
		}
	}
	return needed
}

// wordUses answers for each node who has it as an input.
func wordUses(g api.Graph) [][]int {
	uses := make([][]int, len(g.Nodes))
	for at := range uses {
		for user := range uses {
			if isInput(g, at, user) {
				uses[at] = append(uses[at], user)
			}
		}
	}
	return uses
}

func sameLists(a, b [][]int) bool { return slices.EqualFunc(a, b, slices.Equal[[]int]) }

// holds holds all four calls against the chapter's words.
func holds(t *testing.T, g api.Graph) {
	t.Helper()
	if got, want := Round(g), wordRound(g); got != want {
		t.Fatalf("Round(%v): %v, want %v", g, got, want)
	}
	if got, want := All(g), wordAll(g); !slices.Equal(got, want) {
		t.Fatalf("All(%v): %v, want %v", g, got, want)
	}
	if got, want := Needed(g), wordNeeded(g); !slices.Equal(got, want) {
		t.Fatalf("Needed(%v): %v, want %v", g, got, want)
	}
	if got, want := Uses(g), wordUses(g); !sameLists(got, want) {
		t.Fatalf("Uses(%v): %v, want %v", g, got, want)
	}
}

func chance() *rand.Rand { return rand.New(rand.NewSource(11)) }

// draw answers a filter of at most most nodes with at most three inputs each, which now and then are no nodes' places.
// By a bound, inputs come from ahead in a mixed order of the nodes, so that none leads round.
func draw(c *rand.Rand, most int, bound bool) api.Graph {
	n := c.Intn(most + 1)
	g := api.Graph{Nodes: make([]api.Node, n), Out: c.Intn(n+3) - 1}
	mixed := c.Perm(n)
	for i, at := range mixed {
		for range c.Intn(4) {
			in := c.Intn(n+3) - 2
			if bound && in >= 0 {
				in = -1
				if i > 0 {
					in = mixed[c.Intn(i)]
				}
			}
			g.Nodes[at].In = append(g.Nodes[at].In, in)
		}
	}
	return g
}

// P11.1: the chapter's example, and others as numbers.
func TestExamples(t *testing.T) {
	for _, e := range []struct {
		g      api.Graph
		round  bool
		all    []int
		needed []bool
		uses   [][]int
	}{
		{graph(2, []int{1}, nil, []int{1}), false, []int{1, 0, 2}, []bool{false, true, true}, [][]int{nil, {0, 2}, nil}},
		{graph(0), false, nil, nil, nil},
		{graph(0, nil), false, []int{0}, []bool{true}, [][]int{nil}},
		{graph(0, []int{api.Source}), false, []int{0}, []bool{true}, [][]int{nil}},
		{graph(0, []int{0}), true, nil, []bool{true}, [][]int{{0}}},
		// Each once, however often a node is an input.
		{graph(1, nil, []int{0, 0, -1, 0}), false, []int{0, 1}, []bool{true, true}, [][]int{{1}, nil}},
		{graph(0, []int{1, 2, 1, 2}, []int{2}, nil), false, []int{2, 1, 0}, []bool{true, true, true}, [][]int{nil, {0}, {0, 1}}},
		// What comes free late goes ahead of greater places that were free at once.
		{graph(3, []int{2}, nil, []int{1}, nil), false, []int{1, 2, 0, 3}, []bool{false, false, false, true}, [][]int{{}, {2}, {0}, {}}},
		// Round beside what isn't: who waits for it doesn't come.
		{graph(4, []int{1}, []int{0}, []int{1}, nil, []int{3}), true, []int{3, 4}, []bool{false, false, false, true, true}, [][]int{{1}, {0, 2}, nil, {4}, nil}},
		{graph(2, []int{1}, []int{0}, []int{1}), true, nil, []bool{true, true, true}, [][]int{{1}, {0, 2}, nil}},
	} {
		if got := Round(e.g); got != e.round {
			t.Error("Round", e.g, got)
		}
		if got := All(e.g); !slices.Equal(got, e.all) {
			t.Error("All", e.g, got)
		}
		if got := Needed(e.g); !slices.Equal(got, e.needed) {
			t.Error("Needed", e.g, got)
		}
		if got := Uses(e.g); !sameLists(got, e.uses) {
			t.Error("Uses", e.g, got)
		}
	}
}

// P11.1: all filters of up to three nodes, whatever the nodes have as inputs, and whatever Out is.
func TestAllSmall(t *testing.T) {
	for n := range 4 {
		for which := range 1 << (n * n) {
			g := api.Graph{Nodes: make([]api.Node, n)}
			for bit := range n * n {
				if which>>bit&1 == 1 {
					g.Nodes[bit/n].In = append(g.Nodes[bit/n].In, bit%n)
				}
			}
			for g.Out = -2; g.Out < n+2; g.Out++ {
				holds(t, g)
			}
		}
	}
}

// P11.1: filters in which no nodes lead round, and others, some inputs twice or no nodes' places.
func TestMixed(t *testing.T) {
	c := chance()
	rounds := 0
	for n := range 4000 {
		g := draw(c, 9, n%2 == 0)
		if n%100 == 0 {
			g = draw(c, 40, n%200 == 0)
		}
		holds(t, g)
		if Round(g) {
			rounds++
		}
	}
	if rounds < 500 || rounds > 2000 {
		t.Error(rounds, "lead round")
	}
}

// P11.1: inputs, and an Out, that are no nodes' places mean nothing.
func TestNoPlaces(t *testing.T) {
	none := []int{api.Source, -2, -5, 2, 3, 256, 1 << 20, 1 << 31, 1 << 32, 1<<32 + 1, math.MaxInt, math.MinInt, math.MinInt + 1}
	for _, out := range none {
		holds(t, graph(out, none, []int{0}))
		holds(t, graph(out, []int{1}, none))
		holds(t, graph(out, none, none))
		holds(t, graph(out))
	}
	for _, in := range none {
		holds(t, graph(0, []int{in, 1, in}, []int{in}))
		holds(t, graph(1, []int{in, 0}, nil))
	}
	if Round(graph(0, none, none)) {
		t.Error("what are no places leads round")
	}
}

// P11.1: what a node does, and with what, is not asked: inputs alone tell.
func TestKindsMeanNothing(t *testing.T) {
	g := graph(0, []int{1}, nil)
	for _, op := range []int{-1, 0, api.Flood, api.Merge, api.Clip, 13} {
		g.Nodes[0].Op, g.Nodes[1].Op = op, op
		g.Nodes[1].P = []int{0, 1, 2}
		holds(t, g)
	}
}

// P11.1, and P1 of the whole: nodes one behind the other, and one that all have, in great number, end soon.
func TestGreat(t *testing.T) {
	const n = 1 << 17
	down := api.Graph{Nodes: make([]api.Node, n)}
	up := api.Graph{Nodes: make([]api.Node, n), Out: n - 1}
	star := api.Graph{Nodes: make([]api.Node, n), Out: n - 1}
	for at := range n - 1 {
		down.Nodes[at].In = []int{at + 1}
		up.Nodes[at+1].In = []int{at, at}
		star.Nodes[at].In = []int{n - 1}
		star.Nodes[n-1].In = append(star.Nodes[n-1].In, api.Source, n)
	}
	for name, g := range map[string]api.Graph{"down": down, "up": up} {
		if l := All(g); len(l) != n || l[0] != n-1-g.Out || l[n-1] != g.Out || Round(g) {
			t.Error(name, len(l))
		}
		if slices.Contains(Needed(g), false) {
			t.Error(name, "not all are needed")
		}
	}
	if l := All(star); len(l) != n || l[0] != n-1 || !slices.IsSorted(l[1:]) || len(Uses(star)[n-1]) != n-1 {
		t.Error("star", len(l))
	}
	if l := Needed(star); slices.Index(l, true) != n-1 {
		t.Error("star: others are needed")
	}
	// The last one led back to the first: nothing may come, and all are needed.
	down.Nodes[n-1].In = []int{0}
	if l := All(down); len(l) != 0 || !Round(down) || slices.Contains(Needed(down), false) {
		t.Error("round", len(l))
	}
}

// P11.2: what is handed in stays, the nodes and inputs behind it in memory too.
func TestStays(t *testing.T) {
	c := chance()
	for n := range 500 {
		drawn := draw(c, 9, n%2 == 0)
		var room []int
		for _, node := range drawn.Nodes {
			room = slices.Concat(room, node.In, []int{77, 78})
		}
		was := slices.Clone(room)
		nodes := make([]api.Node, len(drawn.Nodes)+2)
		start := 0
		for at, node := range drawn.Nodes {
			nodes[at] = api.Node{Op: at, In: room[start : start+len(node.In)], P: []int{at}}
			start += len(node.In) + 2
		}
		nodes[len(drawn.Nodes)] = api.Node{Op: 99}
		g := api.Graph{Nodes: nodes[:len(drawn.Nodes)], Out: drawn.Out}
		for range 2 {
			Round(g)
			spoil(All(g))
			clear(Needed(g))
			for _, l := range Uses(g) {
				spoil(l)
			}
		}
		if !slices.Equal(room, was) || nodes[len(drawn.Nodes)].Op != 99 || nodes[len(drawn.Nodes)+1].In != nil {
			t.Fatalf("%v is changed to %v", was, room)
		}
		for at, node := range drawn.Nodes {
			if got := nodes[at]; got.Op != at || !slices.Equal(got.In, node.In) || !slices.Equal(got.P, []int{at}) {
				t.Fatalf("node %d: %v is changed to %v", at, node, got)
			}
		}
		holds(t, g)
	}
}

// spoil writes over a list and all of its spare room.
func spoil(l []int) {
	l = l[:cap(l)]
	for i := range l {
		l[i] = -99
	}
}

// P11.2: what is answered is new memory: no two answers, and no two lists of one answer, share any.
func TestNewMemory(t *testing.T) {
	c := chance()
	for n := range 300 {
		g := draw(c, 9, n%2 == 0)
		all, needed, uses := All(g), Needed(g), Uses(g)
		spoil(All(g))
		other := Needed(g)
		for at := range other {
			other[at] = !other[at]
		}
		lists := Uses(g)
		for at, l := range lists {
			spoil(l)
			lists[at] = []int{5}
		}
		if !slices.Equal(all, wordAll(g)) || !slices.Equal(needed, wordNeeded(g)) || !sameLists(uses, wordUses(g)) {
			t.Fatalf("%v: answers share memory", g)
		}
		for i := range uses {
			spoil(uses[i])
			for j := i + 1; j < len(uses); j++ {
				if !slices.Equal(uses[j], wordUses(g)[j]) {
					t.Fatalf("%v: lists %d and %d share memory", g, i, j)
				}
			}
		}
		holds(t, g)
	}
}
