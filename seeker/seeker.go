// Package seeker makes an index of a text, and finds in it what is nearly there: see DOC.md.
package seeker

import (
	"seeker/api"
	"seeker/index"
	"seeker/near"
	"seeker/saved"
	"seeker/suffix"
	"seeker/transform"
)

// Suffixes sorts the suffixes of a text (P3).
func Suffixes(text string) ([]int, api.Errno) {
	if len(text) > api.MaxText {
		return nil, api.ErrText
	}
	return suffix.Sort(text), api.OK
}

// Transform tells the bytes ahead of the rows, and where the END is (P4).
func Transform(text string) (string, int, api.Errno) {
	if len(text) > api.MaxText {
		return "", 0, api.ErrText
	}
	bytes, end := transform.Of(text)
	return bytes, end, api.OK
}

// Restore finds the text of a transform (P5).
func Restore(bytes string, end int) (string, api.Errno) {
	if len(bytes) > api.MaxText {
		return "", api.ErrText
	}
	text, ok := transform.Restore(bytes, end)
	if !ok {
		return "", api.ErrTransform
	}
	return text, api.OK
}

// Build makes an image (P6).
func Build(text string, rate int) (string, api.Errno) {
	if len(text) > api.MaxText {
		return "", api.ErrText
	}
	if rate < 1 || rate > api.MaxRate {
		return "", api.ErrRate
	}
	return saved.Image(index.Of(text, rate)), api.OK
}

// Text tells the text and the rate of an image (P6).
func Text(image string) (string, int, api.Errno) {
	x, ok := saved.Index(image)
	if !ok {
		return "", 0, api.ErrImage
	}
	return x.Text(), x.Rate, api.OK
}

// Rank tells how many rows ahead of a row have a byte, or less, ahead of them (P7).
func Rank(image string, c int, row int) (int, int, api.Errno) {
	x, ok := saved.Index(image)
	if !ok {
		return 0, 0, api.ErrImage
	}
	if !isByte(c) || row < 0 || row > x.Rows() {
		return 0, 0, api.ErrRange
	}
	same, less := x.Rank(byte(c), row)
	return same, less, api.OK
}

// Left puts a byte to the left of a pair (P7).
func Left(image string, p api.Pair, c int) (api.Pair, api.Errno) {
	return grow(image, p, index.Left, c)
}

// Right puts a byte to the right of a pair (P7).
func Right(image string, p api.Pair, c int) (api.Pair, api.Errno) {
	return grow(image, p, index.Right, c)
}

func grow(image string, p api.Pair, side int, c int) (api.Pair, api.Errno) {
	x, ok := saved.Index(image)
	if !ok {
		return api.Pair{}, api.ErrImage
	}
	if !isByte(c) || !x.IsPair(p) {
		return api.Pair{}, api.ErrRange
	}
	return x.Grow(p, side, byte(c)), api.OK
}

func isByte(c int) bool { return c >= 0 && c <= 255 }

// Count tells how often a pattern stands in the text (P9).
func Count(image string, pattern string) (int, api.Errno) {
	x, e := opened(image, pattern)
	if e != api.OK {
		return 0, e
	}
	low, high := x.Interval(pattern)
	return high - low, api.OK
}

// Locate tells where a pattern stands (P9).
func Locate(image string, pattern string) ([]int, api.Errno) {
	x, e := opened(image, pattern)
	if e != api.OK {
		return nil, e
	}
	return x.Places(x.Interval(pattern)), api.OK
}

// opened has the errors that all finding calls share, in their order, ahead of the index.
func opened(image string, pattern string) (*index.Index, api.Errno) {
	x, ok := saved.Index(image)
	if !ok {
		return nil, api.ErrImage
	}
	if pattern == "" {
		return nil, api.ErrEmpty
	}
	if len(pattern) > api.MaxPattern {
		return nil, api.ErrPattern
	}
	return x, api.OK
}

// Wrong tells where a pattern stands but for some wrong bytes (P10).
func Wrong(image string, pattern string, k int) ([]int, api.Errno) {
	x, e := opened(image, pattern)
	if e != api.OK {
		return nil, e
	}
	if k < 0 || k > api.MaxK {
		return nil, api.ErrK
	}
	return near.Places(x, pattern, k, near.Replace), api.OK
}

// Edits tells where a pattern stands but for some edits (P11).
func Edits(image string, pattern string, k int) ([]int, api.Errno) {
	x, e := opened(image, pattern)
	if e != api.OK {
		return nil, e
	}
	if k < 0 || k > api.MaxK || k >= len(pattern) {
		return nil, api.ErrK
	}
	return near.Places(x, pattern, k, near.PutIn, near.TakeAway, near.Replace), api.OK
}
