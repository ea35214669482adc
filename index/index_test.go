package index

import (
	"math/rand"
	"slices"
	"strings"
	"testing"

	"seeker/api"
	"seeker/suffix"
)

// short is as much of a list as is good to read when a test fails.
func short(list []int) []int { return list[:min(len(list), 40)] }

func drawText(r *rand.Rand, size, kinds int) string {
	b := make([]byte, size)
	for i := range b {
		b[i] = byte(r.Intn(kinds) * 255 / max(1, kinds-1))
	}
	return string(b)
}

func someTexts() []string {
	texts := []string{"", "a", "aaa", "abracadabra", "\x00", "\xff\x00", "the quick brown fox", strings.Repeat("ab", 1000)}
	r := rand.New(rand.NewSource(23))
	for _, kinds := range []int{1, 2, 8, 9, 256} {
		texts = append(texts, drawText(r, 60, kinds), drawText(r, 257, kinds), drawText(r, 2000, kinds))
	}
	return texts
}

func TestTextOfSide(t *testing.T) {
	for _, text := range someTexts() {
		x := Of(text, 5)
		if x.Text() != text || x.Back.Text() != reversed(text) || x.Rows() != len(text)+1 {
			t.Errorf("%.20q: %.20q, backwards %.20q, %d rows", text, x.Text(), x.Back.Text(), x.Rows())
		}
	}
}

func TestPlaces(t *testing.T) {
	for _, text := range someTexts() {
		for _, rate := range []int{1, 2, 7, 64} {
			x := Of(text, rate)
			for row, place := range suffix.Sort(text) {
				if got := x.Place(row); got != place {
					t.Fatalf("%.20q, rate %d: the place of row %d is %d, want %d", text, rate, row, got, place)
				}
			}
		}
	}
}

// TestKept: just each rate-th place is kept, in the order of the rows.
func TestKept(t *testing.T) {
	for _, text := range someTexts() {
		for _, rate := range []int{1, 2, 7, 64} {
			kept := Of(text, rate).Kept
			count := 0
			for row, place := range suffix.Sort(text) {
				got, ok := kept.at(row)
				if ok != (place%rate == 0) || ok && got != place {
					t.Fatalf("%.20q, rate %d: row %d, of place %d, keeps %d, %v", text, rate, row, place, got, ok)
				}
				if ok {
					count++
				}
			}
			if len(kept.Places) != count || count != len(text)/rate+1 {
				t.Fatalf("%.20q, rate %d: %d places kept of %d", text, rate, len(kept.Places), len(text)+1)
			}
		}
	}
}

// TestJoin takes the transforms of a text and of the same text backwards, and no others.
func TestJoin(t *testing.T) {
	texts := []string{"", "a", "b", "ab", "ba", "aab", "aba", "abracadabra"}
	for _, text := range texts {
		for _, other := range texts {
			x, ok := Join(transformed(text), transformed(reversed(other)), 3)
			if ok != (text == other) || ok && x.Text() != text {
				t.Errorf("%q with %q: %v", text, other, ok)
			}
		}
	}
	good := transformed("ab")
	for _, bad := range []Transformed{{"ab", 0}, {"ba", 2}, {"ba", 7}, {"ba", -1}, {"", 1}} {
		_, first := Join(bad, good, 1)
		_, second := Join(good, bad, 1)
		if first || second {
			t.Errorf("%v is taken for a transform: ahead %v, back %v", bad, first, second)
		}
	}
}

// TestGrownStaysPair: from every pair, of a pattern or not, each byte leads to a pair.
func TestGrownStaysPair(t *testing.T) {
	for _, text := range []string{"", "a", "aaa", "abcab", "\x00\xff\x00"} {
		x := Of(text, 1)
		rows := x.Rows()
		for low := range rows + 1 {
			for high := low; high <= rows; high++ {
				for back := 0; back <= rows-(high-low); back++ {
					p := api.Pair{Low: low, High: high, Back: back}
					for c := range 256 {
						left, right := x.Grow(p, Left, byte(c)), x.Grow(p, Right, byte(c))
						if !x.IsPair(p) || !x.IsPair(left) || !x.IsPair(right) {
							t.Fatalf("%q, %v, by %d: %v, %v", text, p, c, left, right)
						}
					}
				}
			}
		}
	}
}

// plainInterval looks at every row; of a pattern that stands nowhere, it tells twice how many rows go ahead of it.
func plainInterval(text, pattern string) (low, high int) {
	count := 0
	for place := range len(text) + 1 {
		if strings.HasPrefix(text[place:], pattern) {
			count++
		} else if text[place:] < pattern {
			low++
		}
	}
	return low, low + count
}

func TestInterval(t *testing.T) {
	r := rand.New(rand.NewSource(29))
	for _, text := range someTexts() {
		x := Of(text, 3)
		patterns := []string{"", "\x00", "\xff", "a", "ab", "zz", "\xff\xff\x00", text, text + "a"}
		for range 20 {
			from := r.Intn(len(text) + 1)
			piece := text[from:min(len(text), from+r.Intn(8))]
			patterns = append(patterns, piece, piece+"\x00", piece+"\xff", "m"+piece)
		}
		for _, pattern := range patterns {
			low, high := x.Interval(pattern)
			if wantLow, wantHigh := plainInterval(text, pattern); low != wantLow || high != wantHigh {
				t.Fatalf("%.20q in %.20q: %d, %d, want %d, %d", pattern, text, low, high, wantLow, wantHigh)
			}
		}
	}
}

// plainFollowers looks behind every place at which a pattern stands.
func plainFollowers(text, pattern string) string {
	var found [256]bool
	for place := range len(text) {
		if rest, ok := strings.CutPrefix(text[place:], pattern); ok && rest != "" {
			found[rest[0]] = true
		}
	}
	var followers []byte
	for c, is := range found {
		if is {
			followers = append(followers, byte(c))
		}
	}
	return string(followers)
}

// TestFollowers: of pieces that grow to the right up to the text's end, behind which there is none.
func TestFollowers(t *testing.T) {
	r := rand.New(rand.NewSource(89))
	for _, text := range someTexts() {
		x := Of(text, 3)
		for _, from := range []int{0, len(text), max(0, len(text)-1), r.Intn(len(text) + 1), r.Intn(len(text) + 1)} {
			p := api.Pair{High: x.Rows()}
			for to := from; ; to++ {
				if got, want := x.Followers(p), plainFollowers(text, text[from:to]); got != want {
					t.Fatalf("behind %.40q in %.20q: %q, want %q", text[from:to], text, got, want)
				}
				if to == min(len(text), from+9) {
					break
				}
				p = x.Grow(p, Right, text[to])
			}
		}
	}
}

func TestPlacesOfInterval(t *testing.T) {
	r := rand.New(rand.NewSource(31))
	for _, text := range someTexts() {
		rows := suffix.Sort(text)
		x := Of(text, 1+r.Intn(64))
		for range 10 {
			low := r.Intn(len(rows) + 1)
			high := low + r.Intn(len(rows)+1-low)
			want := slices.Sorted(slices.Values(rows[low:high]))
			if got := x.Places(low, high); !slices.Equal(got, want) {
				t.Fatalf("%.20q, rows %d to %d: %v, want %v", text, low, high, short(got), short(want))
			}
		}
	}
}
