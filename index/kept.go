package index

import "seeker/bitrow"

// Kept has each rate-th place of the text, from 0 on: Marks says which rows are theirs, and Places tells them in the
// order of these rows.
type Kept struct {
	Marks  bitrow.Row
	Places []int
}

// keep takes the row of each place.
func keep(rows []int, rate int) Kept {
	places := make([]int, len(rows))
	for place, row := range rows {
		places[row] = place
	}
	isKept := func(row int) bool { return places[row]%rate == 0 }
	kept := Kept{Marks: bitrow.Of(len(rows), isKept)}
	for row, place := range places {
		if isKept(row) {
			kept.Places = append(kept.Places, place)
		}
	}
	return kept
}

// at tells the place of a row, if it is kept.
func (k *Kept) at(row int) (int, bool) {
	if !k.Marks.Bit(row) {
		return 0, false
	}
	return k.Places[k.Marks.Ones(row)], true
}
