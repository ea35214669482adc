package ranks

import (
	"math/rand"
	"strings"
	"testing"
)

func plainCount(bytes string, c byte, row int) (same, less int) {
	for i := range row {
		if bytes[i] == c {
			same++
		}
		if bytes[i] < c {
			less++
		}
	}
	return same, less
}

// check holds both kinds, whichever is the right one for these bytes, against the plain count.
func check(t *testing.T, bytes string) {
	t.Helper()
	for _, counter := range []Counter{Of(bytes), newFew(bytes, lettersOf(bytes)), newMany(bytes)} {
		if counter.Size() != len(bytes) {
			t.Fatalf("%T of %d bytes has %d", counter, len(bytes), counter.Size())
		}
		for row := range len(bytes) + 1 {
			for c := 0; c < 256; c += 1 + row%5 {
				same, less := counter.Count(byte(c), row)
				wantSame, wantLess := plainCount(bytes, byte(c), row)
				if same != wantSame || less != wantLess {
					t.Fatalf("%T of %.40q: Count(%d, %d) = %d, %d, want %d, %d", counter, bytes, c, row, same, less, wantSame, wantLess)
				}
			}
			if row < len(bytes) && counter.At(row) != bytes[row] {
				t.Fatalf("%T of %.40q: At(%d) = %d, want %d", counter, bytes, row, counter.At(row), bytes[row])
			}
		}
	}
}

// checkAmong holds both kinds against a plain look at each byte.
func checkAmong(t *testing.T, bytes string, low, high int) {
	t.Helper()
	want := ""
	for c := range 256 {
		if letter := string([]byte{byte(c)}); strings.Contains(bytes[low:high], letter) {
			want += letter
		}
	}
	for _, counter := range []Counter{newFew(bytes, lettersOf(bytes)), newMany(bytes)} {
		if got := counter.Among(low, high); got != want {
			t.Fatalf("%T of %.40q: Among(%d, %d) = %q, want %q", counter, bytes, low, high, got, want)
		}
	}
}

func TestAmong(t *testing.T) {
	r := rand.New(rand.NewSource(83))
	for _, size := range []int{0, 1, 2, 64, 65, 300} {
		for _, kinds := range []int{1, 2, 9, 256} {
			drawn := make([]byte, size)
			for i := range drawn {
				drawn[i] = byte(r.Intn(kinds) * 255 / max(1, kinds-1))
			}
			checkAmong(t, string(drawn), 0, size)
			for range 20 {
				low := r.Intn(size + 1)
				high := low + r.Intn(size+1-low)
				checkAmong(t, string(drawn), low, low)
				checkAmong(t, string(drawn), low, high)
				checkAmong(t, string(drawn), low, min(size, low+1))
			}
		}
	}
}

func TestCount(t *testing.T) {
	r := rand.New(rand.NewSource(19))
	for _, size := range []int{0, 1, 2, 5, 63, 64, 65, 127, 128, 129, 300} {
		for _, kinds := range []int{1, 2, 8, 9, 256} {
			drawn := make([]byte, size)
			for i := range drawn {
				drawn[i] = byte(r.Intn(kinds) * 255 / max(1, kinds-1))
			}
			check(t, string(drawn))
		}
	}
	check(t, "\x00\xff\x00\xff")
	check(t, "ardrcaaaabb")
}

func TestWhichKind(t *testing.T) {
	for _, c := range []struct {
		bytes string
		few   bool
	}{
		{"", true}, {"a", true}, {"ardrcaaaabb", true}, {"\x00\xff", true}, {"hgfedcba", true},
		{"ihgfedcba", false}, {strings.Repeat("aaaaaaaabcdefghi", 100), false}, {strings.Repeat("habcdefg", 200), true},
	} {
		if _, few := Of(c.bytes).(*Few); few != c.few {
			t.Errorf("of %.20q: few is %v", c.bytes, few)
		}
	}
}

func TestWhatIsSaved(t *testing.T) {
	few := newFew("ardrcaaaabb", lettersOf("ardrcaaaabb"))
	if few.Letters() != "abcdr" {
		t.Errorf("letters %q", few.Letters())
	}
	if packed := few.RowOf(1).Pack(); packed != "\x00\x06" {
		t.Errorf("where the b are: %q", packed)
	}
	if many := newMany("the quick brown fox"); many.Bytes() != "the quick brown fox" {
		t.Errorf("bytes %q", many.Bytes())
	}
}
