package seeker_test

import (
	"math"
	"math/rand"
	"slices"
	"strings"
	"testing"

	"seeker/api"
	"seeker/seeker"
)

// plainRows follows the document's words: the places, sorted by their whole suffixes.
func plainRows(text string) []int {
	places := make([]int, len(text)+1)
	for i := range places {
		places[i] = i
	}
	slices.SortFunc(places, func(a, b int) int { return strings.Compare(text[a:], text[b:]) })
	return places
}

// plainTransform reads the bytes ahead of the rows off the sorted places.
func plainTransform(text string) (string, int) {
	var bytes []byte
	end := 0
	for row, place := range plainRows(text) {
		if place == 0 {
			end = row
		} else {
			bytes = append(bytes, text[place-1])
		}
	}
	return string(bytes), end
}

// short is as much of a list as is good to read when a test fails.
func short(list []int) []int { return list[:min(len(list), 40)] }

func drawText(r *rand.Rand, size, kinds int) string {
	b := make([]byte, size)
	for i := range b {
		b[i] = byte(r.Intn(kinds) * 255 / max(1, kinds-1))
	}
	return string(b)
}

// edgeTexts are those the document names, the longest that may be, and some drawn ones.
func edgeTexts() []string {
	texts := []string{
		"", "a", "aaa", "ab", "ba", "abracadabra", "mississippi", "\x00", "\xff", "\x00\xff", "\xff\x00",
		"\x00\x00\x00", "\xff\xff\xff", "\x7f\x80\x7f", "ä€𝄞ä", "a\x00a\x00",
		strings.Repeat("a", api.MaxText),
		strings.Repeat("\x00", api.MaxText),
		strings.Repeat("\xff", api.MaxText),
		strings.Repeat("ab", api.MaxText/2),
		strings.Repeat("a", api.MaxText-1) + "\x00",
		"\xff" + strings.Repeat("a", api.MaxText-1),
	}
	r := rand.New(rand.NewSource(11))
	for _, kinds := range []int{1, 2, 3, 4, 16, 256} {
		texts = append(texts, drawText(r, api.MaxText, kinds))
		for range 20 {
			texts = append(texts, drawText(r, r.Intn(100), kinds))
		}
	}
	return texts
}

func tooLongTexts() []string {
	return []string{
		strings.Repeat("a", api.MaxText+1),
		strings.Repeat("\x00", api.MaxText+1),
		strings.Repeat("ab", api.MaxText),
		strings.Repeat("z", 1<<20),
	}
}

func TestP3Examples(t *testing.T) {
	for _, c := range []struct {
		text string
		rows []int
	}{
		{"abracadabra", []int{11, 10, 7, 0, 3, 5, 8, 1, 4, 6, 9, 2}},
		{"aaa", []int{3, 2, 1, 0}},
		{"", []int{0}},
	} {
		if rows, e := seeker.Suffixes(c.text); !slices.Equal(rows, c.rows) || e != api.OK {
			t.Errorf("Suffixes(%q) = %v, %d, want %v", c.text, rows, e, c.rows)
		}
	}
}

func TestP3AllSorted(t *testing.T) {
	for _, text := range edgeTexts() {
		if rows, e := seeker.Suffixes(text); !slices.Equal(rows, plainRows(text)) || e != api.OK {
			t.Errorf("Suffixes(%.40q, %d bytes) = %v, %d", text, len(text), short(rows), e)
		}
	}
}

func TestP3TooLong(t *testing.T) {
	for _, text := range tooLongTexts() {
		if rows, e := seeker.Suffixes(text); len(rows) != 0 || e != api.ErrText {
			t.Errorf("Suffixes(%d bytes): %d rows, %d", len(text), len(rows), e)
		}
	}
}

func TestP4Examples(t *testing.T) {
	for _, c := range []struct {
		text, bytes string
		end         int
	}{
		{"abracadabra", "ardrcaaaabb", 3}, {"aaa", "aaa", 3}, {"", "", 0}, {"ab", "ba", 1},
	} {
		if bytes, end, e := seeker.Transform(c.text); bytes != c.bytes || end != c.end || e != api.OK {
			t.Errorf("Transform(%q) = %q, %d, %d, want %q, %d", c.text, bytes, end, e, c.bytes, c.end)
		}
	}
}

func TestP4All(t *testing.T) {
	for _, text := range edgeTexts() {
		want, row := plainTransform(text)
		if bytes, end, e := seeker.Transform(text); bytes != want || end != row || e != api.OK {
			t.Errorf("Transform(%.40q, %d bytes) = %.40q, %d, %d, want %.40q, %d", text, len(text), bytes, end, e, want, row)
		}
	}
}

func TestP4TooLong(t *testing.T) {
	for _, text := range tooLongTexts() {
		if bytes, end, e := seeker.Transform(text); bytes != "" || end != 0 || e != api.ErrText {
			t.Errorf("Transform(%d bytes): %d bytes, %d, %d", len(text), len(bytes), end, e)
		}
	}
}

func TestP5All(t *testing.T) {
	for _, text := range edgeTexts() {
		bytes, end := plainTransform(text)
		if got, e := seeker.Restore(bytes, end); got != text || e != api.OK {
			t.Errorf("Restore(%.40q, %d) = %.40q, %d, want %.40q", bytes, end, got, e, text)
		}
	}
}

func TestP5NoTransform(t *testing.T) {
	for _, c := range []struct {
		bytes string
		end   int
	}{
		{"ab", 0}, {"ba", 2}, {"ba", 7}, {"ba", 0}, {"a", 0}, {"\x00", 0}, {"\xff", 0}, {"aaa", 0}, {"aaa", 2},
		{"", 1}, {"", -1}, {"ba", -1}, {"ba", 3}, {"ba", math.MinInt}, {"ba", math.MaxInt}, {"ba", 1 << 32},
		{"ardrcaaaabb", 2}, {"ardrcaaaabb", 4}, {"abracadabra", 3}, {"ardrcaaaabb", 12}, {"ardrcaaaabb", 3 + 1<<32},
		{strings.Repeat("a", api.MaxText), api.MaxText - 1}, {strings.Repeat("a", api.MaxText), api.MaxText + 1},
	} {
		if text, e := seeker.Restore(c.bytes, c.end); text != "" || e != api.ErrTransform {
			t.Errorf("Restore(%.20q, %d) = %.20q, %d", c.bytes, c.end, text, e)
		}
	}
}

// TestP5EveryRow: of all rows of some bytes, Restore takes just those that give a text with this very transform.
func TestP5EveryRow(t *testing.T) {
	r := rand.New(rand.NewSource(13))
	for range 300 {
		bytes := drawText(r, r.Intn(12), 1+r.Intn(3))
		for end := -1; end <= len(bytes)+1; end++ {
			text, e := seeker.Restore(bytes, end)
			if e == api.OK {
				if again, row := plainTransform(text); again != bytes || row != end {
					t.Fatalf("Restore(%q, %d) = %q, whose transform is %q, %d", bytes, end, text, again, row)
				}
			} else if text != "" || e != api.ErrTransform {
				t.Fatalf("Restore(%q, %d) = %q, %d", bytes, end, text, e)
			}
		}
	}
}

func TestP5TooLong(t *testing.T) {
	for _, bytes := range tooLongTexts() {
		for _, end := range []int{0, len(bytes), -1, len(bytes) + 1, math.MinInt, math.MaxInt} {
			if text, e := seeker.Restore(bytes, end); text != "" || e != api.ErrText {
				t.Errorf("Restore(%d bytes, %d): %d bytes, %d", len(bytes), end, len(text), e)
			}
		}
	}
}
