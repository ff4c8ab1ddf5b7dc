package need

import (
	"gouache/api"
	"gouache/rect"
)

// asked is what is asked so far of each node, and of Source.
type asked struct {
	nodes  []api.Rect
	source api.Rect
}

// join asks for r too, of the node at, or of Source.
func (a *asked) join(at int, r api.Rect) {
	if so := a.of(at); so != nil {
		*so = rect.Join(*so, r)
	}
}

// of answers where it stands what is asked of the node at, or of Source; nil, if at is neither, as in a filter that
// isn't right.
func (a *asked) of(at int) *api.Rect {
	if at == api.Source {
		return &a.source
	}
	if at < 0 || at >= len(a.nodes) {
		return nil
	}
	return &a.nodes[at]
}

// backward goes through a list from the last one to the first one.
func backward(list []int) func(yield func(at int) bool) {
	return func(yield func(at int) bool) {
		for i := len(list) - 1; i >= 0; i-- {
			if !yield(list[i]) {
				return
			}
		}
	}
}
