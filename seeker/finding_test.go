package seeker_test

import (
	"math/rand"
	"slices"
	"strings"
	"testing"

	"seeker/api"
	"seeker/seeker"
)

// plainPlaces looks at every place of the text.
func plainPlaces(text, pattern string) []int {
	var places []int
	for place := range len(text) + 1 {
		if strings.HasPrefix(text[place:], pattern) {
			places = append(places, place)
		}
	}
	return places
}

func checkFound(t *testing.T, image, text, pattern string) {
	t.Helper()
	want := plainPlaces(text, pattern)
	if count, e := seeker.Count(image, pattern); count != len(want) || e != api.OK {
		t.Errorf("Count of %q in %.40q: %d, %d, want %d", pattern, text, count, e, len(want))
	}
	if places, e := seeker.Locate(image, pattern); !slices.Equal(places, want) || e != api.OK {
		t.Errorf("Locate of %q in %.40q: %v, %d, want %v", pattern, text, short(places), e, short(want))
	}
}

func TestP9Examples(t *testing.T) {
	for _, rate := range someRates() {
		image := mustBuild(t, "abracadabra", rate)
		for _, c := range []struct {
			pattern string
			places  []int
		}{
			{"abra", []int{0, 7}}, {"bra", []int{1, 8}}, {"a", []int{0, 3, 5, 7, 10}}, {"x", nil},
		} {
			if count, e := seeker.Count(image, c.pattern); count != len(c.places) || e != api.OK {
				t.Errorf("Count of %q: %d, %d", c.pattern, count, e)
			}
			if places, e := seeker.Locate(image, c.pattern); !slices.Equal(places, c.places) || e != api.OK {
				t.Errorf("Locate of %q: %v, %d", c.pattern, places, e)
			}
		}
	}
}

// piecesOf are patterns that stand in a text: at its start, at its end, and at a place that is drawn.
func piecesOf(r *rand.Rand, text string) []string {
	var pieces []string
	for _, size := range []int{1, 2, 3, 7, 29, api.MaxPattern} {
		if size > len(text) {
			break
		}
		from := r.Intn(len(text) - size + 1)
		pieces = append(pieces, text[:size], text[len(text)-size:], text[from:from+size])
	}
	if text != "" && len(text) <= api.MaxPattern {
		pieces = append(pieces, text)
	}
	return pieces
}

// changed has one byte of a pattern put to another, which may stand in the text or not.
func changed(r *rand.Rand, pattern string, to byte) string {
	b := []byte(pattern)
	b[r.Intn(len(b))] = to
	return string(b)
}

// patternsFor are those that stand in a text, those that nearly do, that lie over its edges, and some of their own.
func patternsFor(r *rand.Rand, text string) []string {
	patterns := []string{
		"\x00", "\xff", "a", "x", "\x00\xff", "aa", "aba", "\xff\x00\xff", strings.Repeat("a", api.MaxPattern),
		strings.Repeat("\x00", api.MaxPattern), strings.Repeat("\xff", api.MaxPattern), drawText(r, api.MaxPattern, 256),
	}
	for _, piece := range piecesOf(r, text) {
		patterns = append(patterns, piece, changed(r, piece, 0), changed(r, piece, 255), changed(r, piece, piece[0]), backwards(piece))
		if len(piece) < api.MaxPattern {
			patterns = append(patterns, piece+"\x00", piece+"\xff", piece+"a", "a"+piece, piece+piece[:1])
		}
	}
	return patterns
}

// TestP9EveryPlace: the patterns of the longest texts take turns with the rates, those of others have all of them.
func TestP9EveryPlace(t *testing.T) {
	r := rand.New(rand.NewSource(73))
	for _, text := range edgeTexts() {
		patterns := patternsFor(r, text)
		for i, rate := range someRates() {
			image := mustBuild(t, text, rate)
			for j, pattern := range patterns {
				if len(text) < api.MaxText || j%len(someRates()) == i {
					checkFound(t, image, text, pattern)
				}
			}
		}
	}
}

// TestP9EachRate: the way from a row to its place has another length at each rate.
func TestP9EachRate(t *testing.T) {
	text := strings.Repeat("abaab", 30) + "abb"
	for rate := 1; rate <= api.MaxRate; rate++ {
		image := mustBuild(t, text, rate)
		for _, pattern := range []string{"a", "b", "aba", "abb", "baaba", "bb", "bbb"} {
			checkFound(t, image, text, pattern)
		}
	}
}

// allStrings are those of a size, of some letters.
func allStrings(letters string, size int) []string {
	if size == 0 {
		return []string{""}
	}
	var longer []string
	for _, s := range allStrings(letters, size-1) {
		for i := range len(letters) {
			longer = append(longer, s+letters[i:i+1])
		}
	}
	return longer
}

// TestP9AllShort: every short pattern in every short text.
func TestP9AllShort(t *testing.T) {
	var patterns []string
	for size := 1; size <= 4; size++ {
		patterns = append(patterns, allStrings("\x00\xff", size)...)
	}
	for size := range 7 {
		for _, text := range allStrings("\x00\xff", size) {
			image := mustBuild(t, text, 2)
			for _, pattern := range patterns {
				checkFound(t, image, text, pattern)
			}
		}
	}
}

func TestP9EveryByte(t *testing.T) {
	r := rand.New(rand.NewSource(79))
	for _, text := range []string{"", "abracadabra", drawText(r, 300, 8), drawText(r, 300, 9), drawText(r, 700, 256)} {
		image := mustBuild(t, text, 7)
		for c := range 256 {
			checkFound(t, image, text, string([]byte{byte(c)}))
		}
	}
}

// TestP9OverItself: runs, in which a pattern lies over itself at nearly all places.
func TestP9OverItself(t *testing.T) {
	for _, c := range []string{"\x00", "a", "\xff"} {
		for _, n := range []int{1, 2, 29, 30, 31, api.MaxText} {
			text := strings.Repeat(c, n)
			image := mustBuild(t, text, 64)
			for _, m := range []int{1, 2, 15, 29, 30} {
				checkFound(t, image, text, strings.Repeat(c, m))
			}
		}
	}
}

func checkFindingError(t *testing.T, image, pattern string, want api.Errno) {
	t.Helper()
	if count, e := seeker.Count(image, pattern); count != 0 || e != want {
		t.Errorf("Count(%.20q, %d bytes) = %d, %d, want %d", image, len(pattern), count, e, want)
	}
	if places, e := seeker.Locate(image, pattern); len(places) != 0 || e != want {
		t.Errorf("Locate(%.20q, %d bytes) = %v, %d, want %d", image, len(pattern), short(places), e, want)
	}
}

// TestP9Errors: what is no image goes ahead of a wrong pattern.
func TestP9Errors(t *testing.T) {
	tooLong := []string{strings.Repeat("a", api.MaxPattern+1), strings.Repeat("\x00", 256), strings.Repeat("\xff", 1<<20)}
	good := mustBuild(t, "abracadabra", 3)
	for _, image := range []string{"", "\x00", "abracadabra", good + "\x00", good[:len(good)-1], good[1:]} {
		for _, pattern := range append(tooLong, "", "a", strings.Repeat("a", api.MaxPattern)) {
			checkFindingError(t, image, pattern, api.ErrImage)
		}
	}
	for _, image := range someImages(t) {
		checkFindingError(t, image, "", api.ErrEmpty)
		for _, pattern := range tooLong {
			checkFindingError(t, image, pattern, api.ErrPattern)
		}
	}
}

// TestP9LongestPattern: 30 bytes are no error, neither where they stand nor where they do not.
func TestP9LongestPattern(t *testing.T) {
	for _, text := range []string{"", "a", strings.Repeat("a", 29), strings.Repeat("a", 30), strings.Repeat("a", 31) + "b"} {
		image := mustBuild(t, text, 4)
		checkFound(t, image, text, strings.Repeat("a", 30))
		checkFound(t, image, text, strings.Repeat("a", 29)+"b")
		checkFound(t, image, text, strings.Repeat("x", 30))
	}
}

// TestP2FoundIsNewMemory: writing into a list and appending to it is seen in no other answer.
func TestP2FoundIsNewMemory(t *testing.T) {
	for _, c := range []struct{ text, pattern string }{
		{"abracadabra", "abra"}, {"abracadabra", "a"}, {"abracadabra", "x"}, {"", "a"}, {strings.Repeat("a", api.MaxText), "aa"},
	} {
		for _, rate := range someRates() {
			image := mustBuild(t, c.text, rate)
			want := plainPlaces(c.text, c.pattern)
			first, _ := seeker.Locate(image, c.pattern)
			second, _ := seeker.Locate(image, c.pattern)
			longer := append(first, -7)
			other := append(second, -9)
			for i := range first {
				first[i] = -7
			}
			clear(first[len(first):cap(first)])
			third, _ := seeker.Locate(image, c.pattern)
			if !slices.Equal(second, want) || !slices.Equal(third, want) || other[len(want)] != -9 || len(longer) != len(want)+1 {
				t.Errorf("Locate of %q in %.20q: a change of one answer shows in another", c.pattern, c.text)
			}
			checkFound(t, image, c.text, c.pattern)
		}
	}
}
