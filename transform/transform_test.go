package transform

import (
	"math"
	"math/rand"
	"slices"
	"strings"
	"testing"

	"seeker/suffix"
)

type pair struct {
	bytes string
	end   int
}

// plain follows the document's words: the byte ahead of each suffix, the suffixes sorted as whole strings.
func plain(text string) pair {
	suffixes := make([]string, len(text)+1)
	for i := range suffixes {
		suffixes[i] = text[i:]
	}
	slices.Sort(suffixes)
	p := pair{}
	for row, s := range suffixes {
		place := len(text) - len(s)
		if place == 0 {
			p.end = row
		} else {
			p.bytes += text[place-1 : place]
		}
	}
	return p
}

// everyText walks all texts of just so many bytes out of an alphabet.
func everyText(alphabet string, size int, visit func(string)) {
	if size == 0 {
		visit("")
		return
	}
	everyText(alphabet, size-1, func(text string) {
		for i := range len(alphabet) {
			visit(text + alphabet[i:i+1])
		}
	})
}

// TestEveryShortText holds Of against the plain words, and Restore, at all bytes and rows, against all that Of told.
func TestEveryShortText(t *testing.T) {
	for _, c := range []struct {
		alphabet string
		most     int
	}{{"\x00a\xff", 6}, {"ab", 10}, {"abcd", 5}} {
		for size := range c.most + 1 {
			texts := map[pair]string{}
			everyText(c.alphabet, size, func(text string) {
				p := plain(text)
				if bytes, end := Of(text); bytes != p.bytes || end != p.end {
					t.Fatalf("Of(%q) = %q, %d, want %q, %d", text, bytes, end, p.bytes, p.end)
				}
				texts[p] = text
			})
			everyText(c.alphabet, size, func(bytes string) {
				for end := -2; end <= size+2; end++ {
					want, known := texts[pair{bytes, end}]
					if text, ok := Restore(bytes, end); text != want || ok != known {
						t.Fatalf("Restore(%q, %d) = %q, %v, want %q, %v", bytes, end, text, ok, want, known)
					}
				}
			})
		}
	}
}

func TestThereAndBack(t *testing.T) {
	r := rand.New(rand.NewSource(7))
	for range 300 {
		b := make([]byte, r.Intn(2001))
		kinds := 1 + r.Intn(256)
		for i := range b {
			b[i] = byte(255 - r.Intn(kinds))
		}
		text := string(b)
		bytes, end := Of(text)
		if got, ok := Restore(bytes, end); got != text || !ok {
			t.Fatalf("Restore of the transform of %.40q (%d bytes): %.40q, %v", text, len(text), got, ok)
		}
	}
}

func TestRowsOfPlaces(t *testing.T) {
	for _, text := range []string{"", "a", "aaa", "abracadabra", "\xff\x00\xff", strings.Repeat("ab", 1000)} {
		p := plain(text)
		rows, ok := Rows(p.bytes, p.end)
		if !ok || len(rows) != len(text)+1 {
			t.Fatalf("Rows(%.40q, %d): %d rows, %v", p.bytes, p.end, len(rows), ok)
		}
		for row, place := range suffix.Sort(text) {
			if rows[place] != row {
				t.Errorf("%.40q: the row of place %d is %d, want %d", text, place, rows[place], row)
			}
		}
	}
}

func TestRowsThatAreNot(t *testing.T) {
	for _, bytes := range []string{"", "a", "ba", "ardrcaaaabb", strings.Repeat("a", 2000)} {
		n := len(bytes)
		for _, end := range []int{math.MinInt, math.MinInt32, -1, n + 1, n + 2, math.MaxInt32, math.MaxInt} {
			if text, ok := Restore(bytes, end); text != "" || ok {
				t.Errorf("Restore(%.20q, %d) = %.20q, %v", bytes, end, text, ok)
			}
			if rows, ok := Rows(bytes, end); len(rows) != 0 || ok {
				t.Errorf("Rows(%.20q, %d): %d rows, %v", bytes, end, len(rows), ok)
			}
		}
	}
}
