// Package saved writes an index as an image, and reads it back.
package saved

import (
	"seeker/index"
	"seeker/ranks"
)

// The parts of an image, in their order. Each begins with its number, and how many bytes follow.
const (
	measures   = iota // how many bytes the text has, and the rate
	textSide          // the rows of the text
	backSide          // the rows of the text read backwards
	keptPlaces        // the places that are kept
	partCount
)

// The kinds of ranks, as a side tells them.
const (
	fewKind = iota
	manyKind
)

// Image writes an index.
func Image(x *index.Index) string {
	var image []byte
	for part := range partCount {
		body := bodyOf(x, part)
		image = append(image, byte(part))
		image = appendNumber(image, len(body))
		image = append(image, body...)
	}
	return string(image)
}

func bodyOf(x *index.Index, part int) []byte {
	switch part {
	case measures:
		return append(appendNumber(nil, x.Rows()-1), byte(x.Rate))
	case textSide:
		return bodyOfSide(&x.Side)
	case backSide:
		return bodyOfSide(&x.Back)
	default:
		return bodyOfKept(&x.Kept)
	}
}

func bodyOfSide(s *index.Side) []byte {
	body := appendNumber(nil, s.End)
	switch counter := s.Counter.(type) {
	case *ranks.Few:
		letters := counter.Letters()
		body = append(body, fewKind, byte(len(letters)))
		body = append(body, letters...)
		for letter := range len(letters) {
			body = append(body, counter.RowOf(letter).Pack()...)
		}
	case *ranks.Many:
		body = append(body, manyKind)
		body = append(body, counter.Bytes()...)
	}
	return body
}

func bodyOfKept(kept *index.Kept) []byte {
	body := []byte(kept.Marks.Pack())
	for _, place := range kept.Places {
		body = appendNumber(body, place)
	}
	return body
}

// appendNumber writes a number in two bytes: no text has so many places that they would not do.
func appendNumber(bytes []byte, number int) []byte {
	return append(bytes, byte(number>>8), byte(number))
}
