package ranks

// span is how many bytes lie from one tally to the next: of these the bytes are gone through.
const span = 64

// tally says of each byte, and of 256 too, how many bytes ahead of a row are less.
type tally [byteKinds + 1]int

// Many is the counter of many different bytes: it has the bytes, and a tally each span of them.
type Many struct {
	bytes   string
	tallies []tally
}

func newMany(bytes string) *Many {
	many := &Many{bytes: bytes}
	var counts [byteKinds]int
	for start := 0; start <= len(bytes); start += span {
		many.tallies = append(many.tallies, tallyOf(&counts))
		for i := start; i < min(start+span, len(bytes)); i++ {
			counts[bytes[i]]++
		}
	}
	return many
}

func tallyOf(counts *[byteKinds]int) tally {
	var less tally
	for c, count := range counts {
		less[c+1] = less[c] + count
	}
	return less
}

// Bytes tells the bytes of all rows.
func (m *Many) Bytes() string { return m.bytes }

// Size is the Counter's.
func (m *Many) Size() int { return len(m.bytes) }

// At is the Counter's.
func (m *Many) At(row int) byte { return m.bytes[row] }

// Count is the Counter's.
func (m *Many) Count(c byte, row int) (same, less int) {
	ahead := &m.tallies[row/span]
	less = ahead[c]
	same = ahead[int(c)+1] - less
	for i := row - row%span; i < row; i++ {
		switch b := m.bytes[i]; {
		case b == c:
			same++
		case b < c:
			less++
		}
	}
	return same, less
}

// Among is the Counter's.
func (m *Many) Among(low, high int) string { return lettersOf(m.bytes[low:high]) }
