package blur

import "gouache/api"

// sums are those of the pixels of which a mean is taken, value by value.
type sums [4]uint32

// add counts a pixel that comes in.
func (s *sums) add(p api.Px) {
	for i, v := range p {
		s[i] += uint32(v)
	}
}

// take counts a pixel no more, which leaves.
func (s *sums) take(p api.Px) {
	for i, v := range p {
		s[i] -= uint32(v)
	}
}

// mean answers the mean of the 2 r + 1 pixels that are counted, nothing among them too.
//
// 2 r + 1 is odd, so that no mean lies in the middle between two numbers: to add r, just below the half, rounds it.
func (s *sums) mean(r int) api.Px {
	var p api.Px
	half := uint32(r)
	for i, sum := range s {
		p[i] = uint8((sum + half) / (2*half + 1))
	}
	return p
}
