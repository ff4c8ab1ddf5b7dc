// Package tone is layer 1, tones and pixels: see shared/doc/01-tone.md.
package tone

import (
	"gouache/api"
)

// top is the greatest tone: the whole, of which tones are parts.
const top = 255

// alpha is the place of alpha in a pixel; ahead of it stand red, green and blue.
const alpha = 3

// Mul answers the tone nearest to a b / 255.
//
// A division by 255 is a division by 256 with the 256th part of what is divided added to it; with a half added
// ahead, no product of two tones comes out on the wrong side.
func Mul(a, b uint8) uint8 {
	n := uint32(a)*uint32(b) + 128
	return uint8((n + n>>8) >> 8)
}

// Div answers the tone nearest to 255 c / a, the greater one of two; 0, if a is 0, and at most 255.
func Div(c, a uint8) uint8 {
	if a == 0 {
		return 0
	}
	// All is doubled, since the half that is added is of an a that may be odd.
	return Cut((2*top*int(c) + int(a)) / (2 * int(a)))
}

// Cut answers the tone that is nearest to n.
func Cut(n int) uint8 {
	switch {
	case n < 0:
		return 0
	case n > top:
		return top
	}
	return uint8(n)
}

// Right says whether no colour of p is more than its alpha.
func Right(p api.Px) bool {
	return max(p[0], p[1], p[2]) <= p[alpha]
}

// Scale answers p with each of its four multiplied by a tone.
func Scale(p api.Px, by uint8) api.Px {
	for i := range p {
		p[i] = Mul(p[i], by)
	}
	return p
}

// Plain answers p with its colours as they were ahead of being multiplied by alpha.
func Plain(p api.Px) api.Px {
	for i := range alpha {
		p[i] = Div(p[i], p[alpha])
	}
	return p
}

// Thick answers p, whose colours are plain, with them multiplied by alpha.
func Thick(p api.Px) api.Px {
	for i := range alpha {
		p[i] = Mul(p[i], p[alpha])
	}
	return p
}
