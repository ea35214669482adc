// Package index is the index of a text: its rows, and how a pattern's interval of them moves as the pattern grows.
package index

import "seeker/ranks"

// Transformed is a text as its transform.
type Transformed struct {
	Bytes string
	End   int // the row that has the END
}

// Side is the index of a text to one side: a pattern grows in it to the left alone.
type Side struct {
	Counter ranks.Counter
	End     int // the row that has the END; the Counter leaves it out
}

func sideOf(t Transformed) Side {
	return Side{Counter: ranks.Of(t.Bytes), End: t.End}
}

// Rows tells how many rows there are.
func (s *Side) Rows() int { return s.Counter.Size() + 1 }

// Rank tells how many rows ahead of this one have c ahead of them, and how many have less, or the END; the row may be
// the one behind the last.
func (s *Side) Rank(c byte, row int) (same, less int) {
	same, less = s.Counter.Count(c, s.counted(row))
	if row > s.End {
		less++
	}
	return same, less
}

// Ahead tells the byte ahead of a row, which must not be that of the END, and the row of the suffix that begins with
// this byte.
func (s *Side) Ahead(row int) (byte, int) {
	c := s.Counter.At(s.counted(row))
	same, _ := s.Rank(c, row)
	return c, s.first(c) + same
}

// counted tells the row that the Counter has for a row: it leaves the END's out.
func (s *Side) counted(row int) int {
	if row > s.End {
		return row - 1
	}
	return row
}

// Among tells the different bytes ahead of the rows of an interval, rising.
func (s *Side) Among(low, high int) string {
	return s.Counter.Among(s.counted(low), s.counted(high))
}

// first tells how many suffixes go ahead of those that begin with c: the empty one, and all that begin with less.
func (s *Side) first(c byte) int {
	_, less := s.Rank(c, s.Rows())
	return less
}

// Narrow moves an interval by a byte to the left. It tells too how many rows of the old interval have less than this
// byte, or the END, ahead of them.
func (s *Side) Narrow(low, high int, c byte) (newLow, newHigh, passed int) {
	sameLow, lessLow := s.Rank(c, low)
	sameHigh, lessHigh := s.Rank(c, high)
	first := s.first(c)
	return first + sameLow, first + sameHigh, lessHigh - lessLow
}

// Interval tells the rows whose suffixes begin with a pattern. An empty interval goes on moving as others do: it stays
// at how many rows go ahead of the pattern.
func (s *Side) Interval(pattern string) (low, high int) {
	low, high = 0, s.Rows()
	for i := len(pattern) - 1; i >= 0; i-- {
		low, high, _ = s.Narrow(low, high, pattern[i])
	}
	return low, high
}

// Text reads the text off the rows, from its end on: row 0 is that of the empty suffix.
func (s *Side) Text() string {
	text := make([]byte, s.Counter.Size())
	row := 0
	for place := len(text) - 1; place >= 0; place-- {
		text[place], row = s.Ahead(row)
	}
	return string(text)
}
