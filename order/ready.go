package order

import "container/heap"

// ready is a heap of the places that may come next, the least one on top.
type ready []int

// Len, Less, Swap, Push and Pop are what package heap asks for.
func (r ready) Len() int           { return len(r) }
func (r ready) Less(i, j int) bool { return r[i] < r[j] }
func (r ready) Swap(i, j int)      { r[i], r[j] = r[j], r[i] }
func (r *ready) Push(x any)        { *r = append(*r, x.(int)) }

func (r *ready) Pop() any {
	last := len(*r) - 1
	at := (*r)[last]
	*r = (*r)[:last]
	return at
}

// least takes the least place out of a heap that has one.
func least(r *ready) int { return heap.Pop(r).(int) }
