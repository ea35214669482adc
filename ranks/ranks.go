// Package ranks counts bytes ahead of a row.
package ranks

// fewMost: up to eight different bytes, a row of bits for each of them takes no more room than the bytes do.
const fewMost = 8

// byteKinds is how many different bytes there are.
const byteKinds = 256

// Counter tells how many of a byte stand ahead of a row. Its rows are the bytes of a transform alone: the END's row is
// left out.
type Counter interface {
	// Size tells how many bytes there are in all.
	Size() int
	// At tells the byte of a row.
	At(row int) byte
	// Count tells how many of the rows ahead of this one have c, and how many have less; the row may be Size.
	Count(c byte, row int) (same, less int)
	// Among tells the different bytes of the rows from low to high - 1, rising.
	Among(low, high int) string
}

// Of makes the kind of counter that is right for these bytes.
func Of(bytes string) Counter {
	letters := lettersOf(bytes)
	if len(letters) <= fewMost {
		return newFew(bytes, letters)
	}
	return newMany(bytes)
}

// lettersOf tells the different bytes that there are, rising.
func lettersOf(bytes string) string {
	var found [byteKinds]bool
	for i := range len(bytes) {
		found[bytes[i]] = true
	}
	var letters []byte
	for c, is := range found {
		if is {
			letters = append(letters, byte(c))
		}
	}
	return string(letters)
}
