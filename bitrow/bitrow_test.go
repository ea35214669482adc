package bitrow

import (
	"math/rand"
	"testing"
)

// edgeSizes lie at and beside the ends of bytes and words.
func edgeSizes() []int {
	return []int{0, 1, 2, 7, 8, 9, 63, 64, 65, 127, 128, 129, 191, 192, 193, 2000, 2001}
}

func drawBits(r *rand.Rand, size, outOf int) []bool {
	drawn := make([]bool, size)
	for i := range drawn {
		drawn[i] = r.Intn(100) < outOf
	}
	return drawn
}

func checkRow(t *testing.T, row Row, want []bool) {
	t.Helper()
	ones := 0
	for i, is := range want {
		if row.Bit(i) != is || row.Ones(i) != ones {
			t.Fatalf("%d bits, at %d: %v, %d ones ahead, want %v, %d", len(want), i, row.Bit(i), row.Ones(i), is, ones)
		}
		if is {
			ones++
		}
	}
	if row.Ones(len(want)) != ones {
		t.Fatalf("%d bits: %d ones in all, want %d", len(want), row.Ones(len(want)), ones)
	}
}

func TestCountedAndPacked(t *testing.T) {
	r := rand.New(rand.NewSource(17))
	for _, size := range edgeSizes() {
		for _, outOf := range []int{0, 1, 50, 99, 100} {
			want := drawBits(r, size, outOf)
			row := Of(size, func(i int) bool { return want[i] })
			checkRow(t, row, want)
			packed := row.Pack()
			if len(packed) != PackedSize(size) {
				t.Fatalf("%d bits take %d bytes, PackedSize says %d", size, len(packed), PackedSize(size))
			}
			again := Unpack(packed, size)
			checkRow(t, again, want)
			if again.Pack() != packed {
				t.Fatalf("%d bits: packed again they are others", size)
			}
		}
	}
}

func TestPackedSize(t *testing.T) {
	for size, want := range map[int]int{0: 0, 1: 1, 7: 1, 8: 1, 9: 2, 16: 2, 64: 8, 65: 9, 2000: 250, 2001: 251} {
		if got := PackedSize(size); got != want {
			t.Errorf("%d bits take %d bytes, want %d", size, got, want)
		}
	}
}

func TestPackedOrder(t *testing.T) {
	row := Of(11, func(i int) bool { return i == 0 || i == 2 || i == 9 })
	if packed := row.Pack(); packed != "\x05\x02" {
		t.Errorf("bits 0, 2 and 9 of 11: %q", packed)
	}
}

// TestBitsBeyond: what lies in the last byte behind the last bit counts for nothing.
func TestBitsBeyond(t *testing.T) {
	row := Unpack("\xff\xff", 11)
	if row.Ones(11) != 11 || row.Pack() != "\xff\x07" {
		t.Errorf("11 ones: %d, %q", row.Ones(11), row.Pack())
	}
}
