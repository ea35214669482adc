// Package bitrow keeps a row of bits, and counts at once the ones ahead of any place in it.
package bitrow

import "math/bits"

const (
	wordSize = 64
	byteSize = 8
)

// Row is a row of bits that is never changed again.
type Row struct {
	size  int
	words []uint64
	ahead []int // the ones ahead of each word
}

// Of makes the row of so many bits. It has a word behind its last full one, be it an empty one, so that the place
// behind the last bit is counted like any other.
func Of(size int, isOne func(i int) bool) Row {
	row := Row{size: size, words: make([]uint64, size/wordSize+1), ahead: make([]int, size/wordSize+1)}
	for i := range size {
		if isOne(i) {
			row.words[i/wordSize] |= 1 << (i % wordSize)
		}
	}
	for word := 1; word < len(row.words); word++ {
		row.ahead[word] = row.ahead[word-1] + bits.OnesCount64(row.words[word-1])
	}
	return row
}

// Bit tells whether there is a one.
func (r Row) Bit(i int) bool {
	return r.words[i/wordSize]>>(i%wordSize)&1 == 1
}

// Ones counts the ones ahead of a place, which is at most that behind the last bit.
func (r Row) Ones(place int) int {
	word := place / wordSize
	below := uint64(1)<<(place%wordSize) - 1
	return r.ahead[word] + bits.OnesCount64(r.words[word]&below)
}

// Pack puts eight bits into a byte, the first one lowest.
func (r Row) Pack() string {
	packed := make([]byte, PackedSize(r.size))
	for i := range packed {
		at := i * byteSize
		packed[i] = byte(r.words[at/wordSize] >> (at % wordSize))
	}
	return string(packed)
}

// Unpack takes a row of so many bits, and not fewer bytes than PackedSize tells, out of what Pack made.
func Unpack(packed string, size int) Row {
	return Of(size, func(i int) bool { return packed[i/byteSize]>>(i%byteSize)&1 == 1 })
}

// PackedSize tells how many bytes so many bits take.
func PackedSize(size int) int {
	return (size + byteSize - 1) / byteSize
}
