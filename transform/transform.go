// Package transform turns a text into the bytes ahead of its rows, and these back into the text.
package transform

import "seeker/suffix"

// Of tells the bytes ahead of the rows of a text, without the END, and the row that has the END.
func Of(text string) (string, int) {
	bytes := make([]byte, 0, len(text))
	end := 0
	for row, place := range suffix.Sort(text) {
		if place == 0 {
			end = row
			continue
		}
		bytes = append(bytes, text[place-1])
	}
	return string(bytes), end
}

// Restore finds the text of a transform; false, if this is the transform of no text.
func Restore(bytes string, end int) (string, bool) {
	rows, ok := Rows(bytes, end)
	if !ok {
		return "", false
	}
	text := make([]byte, len(bytes))
	for place := range text {
		text[place] = bytes[indexOfRow(rows[place+1], end)]
	}
	return string(text), true
}

// Rows finds for each place of the text, from the last one on, the row of its suffix; false, if this is the transform
// of no text.
//
// The row of a suffix leads to that of the suffix a byte longer, and the row of the END to row 0 again: each row
// comes of one row alone. So the way from row 0 is a ring that has the END's row in it. If it has all rows, the text
// read on it has this transform; if it comes to the END with rows left over, no text has.
func Rows(bytes string, end int) ([]int, bool) {
	if end < 0 || end > len(bytes) {
		return nil, false
	}
	longer := rowsBegunBy(bytes)
	rows := make([]int, len(bytes)+1)
	for place := len(bytes); place > 0; place-- {
		if rows[place] == end {
			return nil, false
		}
		rows[place-1] = longer[indexOfRow(rows[place], end)]
	}
	return rows, true
}

// indexOfRow says where the byte ahead of a row stands: the row of the END has none among the bytes.
func indexOfRow(row, end int) int {
	if row > end {
		return row - 1
	}
	return row
}

// rowsBegunBy tells for each byte ahead of a row the row whose suffix begins with this very byte: among suffixes that
// begin with the same byte, the rest of them gives the order, and the rests are the rows the bytes are ahead of.
func rowsBegunBy(bytes string) []int {
	next := firstRows(bytes)
	rows := make([]int, len(bytes))
	for i := range len(bytes) {
		c := bytes[i]
		rows[i] = next[c]
		next[c]++
	}
	return rows
}

// firstRows tells for each byte the first row whose suffix begins with it; row 0 is left to the empty suffix.
func firstRows(bytes string) [256]int {
	var counts, first [256]int
	for i := range len(bytes) {
		counts[bytes[i]]++
	}
	row := 1
	for c, count := range counts {
		first[c] = row
		row += count
	}
	return first
}
