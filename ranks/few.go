package ranks

import "seeker/bitrow"

// Few is the counter of few different bytes: for each of these it has a row of bits, which says where the byte is.
type Few struct {
	size    int
	letters string
	rows    []bitrow.Row
}

func newFew(bytes, letters string) *Few {
	few := &Few{size: len(bytes), letters: letters}
	for k := range len(letters) {
		few.rows = append(few.rows, bitrow.Of(len(bytes), func(i int) bool { return bytes[i] == letters[k] }))
	}
	return few
}

// Letters tells the different bytes, rising.
func (f *Few) Letters() string { return f.letters }

// RowOf tells the row of bits of the letter with this number.
func (f *Few) RowOf(letter int) bitrow.Row { return f.rows[letter] }

// Size is the Counter's.
func (f *Few) Size() int { return f.size }

// At is the Counter's. Each row has its bit in one of the letters' rows, so the last one needs no look.
func (f *Few) At(row int) byte {
	last := len(f.rows) - 1
	for k := range last {
		if f.rows[k].Bit(row) {
			return f.letters[k]
		}
	}
	return f.letters[last]
}

// Count is the Counter's.
func (f *Few) Count(c byte, row int) (same, less int) {
	for k, bits := range f.rows {
		switch letter := f.letters[k]; {
		case letter < c:
			less += bits.Ones(row)
		case letter == c:
			return bits.Ones(row), less
		default:
			return 0, less
		}
	}
	return 0, less
}

// Among is the Counter's.
func (f *Few) Among(low, high int) string {
	var among []byte
	for k, bits := range f.rows {
		if bits.Ones(low) < bits.Ones(high) {
			among = append(among, f.letters[k])
		}
	}
	return string(among)
}
