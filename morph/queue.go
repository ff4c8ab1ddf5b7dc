package morph

import "gouache/api"

// room is how many values a queue has place for: the 2 r + 1 of the greatest radius are fewer, and a power of two lets
// indices come round without a division.
const room = 2 * (api.MaxRadius + 1)

// queue holds, of the values of a line that are in sight, those that may still be the greatest: each is more than all
// behind it, so that the first one is the greatest now.
type queue struct {
	place      [room]int
	value      [room]uint8
	first, end uint
}

// enter lets in the value v, which stands at place, behind all that are held.
//
// It drives out those that are no more than it is: they go out of sight ahead of it, and are the greatest no more.
func (q *queue) enter(place int, v uint8) {
ask:
	if q.first == q.end || q.value[(q.end-1)%room] > v {
		goto stand
	}
	q.end--
	goto ask
stand:
	q.place[q.end%room] = place
	q.value[q.end%room] = v
	q.end++
}

// leave lets out the value that stands at place, if it is held still.
//
// Values go out of sight in the order in which they came, so that it can but be the first one.
func (q *queue) leave(place int) {
	if q.first != q.end && q.place[q.first%room] == place {
		q.first++
	}
}

// greatest answers the greatest value in sight, of which there must be one.
func (q *queue) greatest() uint8 {
	return q.value[q.first%room]
}

// sight is the pixels of a line that are in sight: value by value a queue.
type sight struct {
	queues [4]queue
	turn   uint8
}

// The turns of a sight: values whose bits are turned about are in the other order, which makes the greatest the least.
const (
	forMost  = 0
	forLeast = 255
)

// empty makes nothing be in sight. What the queues held may stay behind: nobody asks for it any more.
func (s *sight) empty() {
	for i := range s.queues {
		s.queues[i].first, s.queues[i].end = 0, 0
	}
}

// enter lets in the pixel p, which stands at place, behind all that are in sight.
func (s *sight) enter(place int, p api.Px) {
	for i, v := range p {
		s.queues[i].enter(place, v^s.turn)
	}
}

// leave lets out the pixel that stands at place, which came ahead of all that are in sight.
func (s *sight) leave(place int) {
	for i := range s.queues {
		s.queues[i].leave(place)
	}
}

// extreme answers value by value the greatest (by turn: the least) of the pixels in sight, of which there must be one.
func (s *sight) extreme() api.Px {
	var p api.Px
	for i := range p {
		p[i] = s.queues[i].greatest() ^ s.turn
	}
	return p
}
