// Package near finds where a pattern stands but for some edits.
package near

import (
	"slices"

	"seeker/api"
	"seeker/index"
)

// The kinds of edits, by which a piece of the text comes of a pattern.
const (
	PutIn = iota
	TakeAway
	Replace
)

// beginnings is a set of beginnings of the pattern: bit j is that of its first j bytes.
type beginnings uint64

// nothing has the empty beginning alone.
const nothing beginnings = 1

// reached says of a piece of the text which beginnings it comes of: in place e, by at most e edits.
type reached [api.MaxK + 1]beginnings

// search goes through the pieces that stand in the text, from the empty one on, as long as one may still become what
// the pattern nearly is.
type search struct {
	x      *index.Index
	whole  beginnings      // the pattern itself alone
	have   [256]beginnings // for each byte, the beginnings that it follows in the pattern
	k      int
	kinds  []int
	places []int
}

// Places tells the places, rising, at which a pattern stands within k edits of these kinds. The pattern is not empty,
// and k neither above MaxK nor so great that the edits could take all of it away.
func Places(x *index.Index, pattern string, k int, kinds ...int) []int {
	s := &search{x: x, whole: 1 << len(pattern), k: k, kinds: kinds}
	for j := range len(pattern) {
		s.have[pattern[j]] |= 1 << j
	}
	empty := api.Pair{High: x.Rows()}
	s.visit(empty, s.start())
	slices.Sort(s.places)
	return s.places
}

// start tells what the empty piece comes of.
func (s *search) start() reached {
	at := reached{nothing}
	for e := 1; e <= s.k; e++ {
		at[e] = nothing | s.edited(0, at[e-1])
	}
	return at
}

// visit looks at a piece and at all that are longer to the right. Where the piece comes of the whole pattern, the longer
// ones have no other places: without them each place is found once, and no beginning grows beyond the pattern.
func (s *search) visit(p api.Pair, at reached) {
	if at[s.k]&s.whole != 0 {
		s.take(p)
		return
	}
	followers := s.x.Followers(p)
	for i := range len(followers) {
		c := followers[i]
		if longer := s.step(at, c); longer[s.k] != 0 {
			s.visit(s.x.Grow(p, index.Right, c), longer)
		}
	}
}

// step tells what a piece comes of when the byte c is put behind it.
func (s *search) step(old reached, c byte) reached {
	longer := reached{(old[0] & s.have[c]) << 1}
	for e := 1; e <= s.k; e++ {
		longer[e] = (old[e]&s.have[c])<<1 | s.edited(old[e-1], longer[e-1])
	}
	return longer
}

// edited tells the beginnings to which one edit more leads: from the old ones, of the piece without its last byte, or
// from those of the piece itself.
func (s *search) edited(old, longer beginnings) beginnings {
	var led beginnings
	for _, kind := range s.kinds {
		switch kind {
		case PutIn:
			led |= old
		case TakeAway:
			led |= longer << 1
		case Replace:
			led |= old << 1
		}
	}
	return led
}

func (s *search) take(p api.Pair) {
	for row := p.Low; row < p.High; row++ {
		s.places = append(s.places, s.x.Place(row))
	}
}
