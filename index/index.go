package index

import (
	"slices"

	"seeker/api"
	"seeker/transform"
)

// The sides of a pair.
const (
	Left = iota
	Right
)

// Index is the index of a text to both sides. What it has of one side, it has of the text itself; Back is the side of
// the text read backwards, in which a pattern grows to the right.
type Index struct {
	Side
	Back Side
	Rate int
	Kept Kept
}

// Of makes the index of a text.
func Of(text string, rate int) *Index {
	x, _ := Join(transformed(text), transformed(reversed(text)), rate)
	return x
}

// Join makes the index of which the transforms are known; false, if they are not those of a text and of the same text
// read backwards.
func Join(ahead, back Transformed, rate int) (*Index, bool) {
	text, ok := transform.Restore(ahead.Bytes, ahead.End)
	if !ok {
		return nil, false
	}
	other, ok := transform.Restore(back.Bytes, back.End)
	if !ok || other != reversed(text) {
		return nil, false
	}
	rows, _ := transform.Rows(ahead.Bytes, ahead.End)
	return &Index{Side: sideOf(ahead), Back: sideOf(back), Rate: rate, Kept: keep(rows, rate)}, true
}

func transformed(text string) Transformed {
	bytes, end := transform.Of(text)
	return Transformed{Bytes: bytes, End: end}
}

func reversed(text string) string {
	bytes := []byte(text)
	slices.Reverse(bytes)
	return string(bytes)
}

// IsPair tells whether this is a pair, one of a pattern or not. Low and High are looked at first: once they are in
// bounds, no difference of theirs can wrap round.
func (x *Index) IsPair(p api.Pair) bool {
	if p.Low < 0 || p.Low > p.High || p.High > x.Rows() {
		return false
	}
	return p.Back >= 0 && p.Back <= x.Rows()-(p.High-p.Low)
}

// Grow puts a byte to a side of a pair.
func (x *Index) Grow(p api.Pair, side int, c byte) api.Pair {
	if side == Left {
		low, high, passed := x.Narrow(p.Low, p.High, c)
		return api.Pair{Low: low, High: high, Back: p.Back + passed}
	}
	low, high, passed := x.Back.Narrow(p.Back, p.Back+p.High-p.Low, c)
	return api.Pair{Low: p.Low + passed, High: p.Low + passed + high - low, Back: low}
}

// Followers tells the bytes, rising, that stand in the text behind the pattern of a pair.
func (x *Index) Followers(p api.Pair) string {
	return x.Back.Among(p.Back, p.Back+p.High-p.Low)
}

// Place tells the place of a row: from there it goes to the left until it comes to a place that is kept. Place 0 is,
// so it never comes to the END.
func (x *Index) Place(row int) int {
	for steps := 0; ; steps++ {
		if place, ok := x.Kept.at(row); ok {
			return place + steps
		}
		_, row = x.Ahead(row)
	}
}

// Places tells the places of the rows of an interval, rising.
func (x *Index) Places(low, high int) []int {
	places := make([]int, 0, high-low)
	for row := low; row < high; row++ {
		places = append(places, x.Place(row))
	}
	slices.Sort(places)
	return places
}
