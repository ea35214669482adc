package seeker_test

import (
	"math"
	"math/rand"
	"slices"
	"strings"
	"testing"

	"seeker/api"
	"seeker/seeker"
)

// notThere is more than any number of wrong bytes or edits that may be asked for.
const notThere = 1000

// plainWrong tells of each place in how many bytes the pattern differs from what stands there.
func plainWrong(text, pattern string) []int {
	var wrong []int
	for place := range len(text) + 1 {
		if place+len(pattern) > len(text) {
			wrong = append(wrong, notThere)
			continue
		}
		differ := 0
		for j := range len(pattern) {
			if text[place+j] != pattern[j] {
				differ++
			}
		}
		wrong = append(wrong, differ)
	}
	return wrong
}

// plainEdits tells of each place the fewest edits between the pattern and what stands from there to any other place.
// What is longer than the pattern by more bytes than edits may be does not matter, and is left out.
func plainEdits(text, pattern string) []int {
	var edits []int
	for place := range len(text) + 1 {
		edits = append(edits, tableOfBeginnings(text[place:min(len(text), place+len(pattern)+api.MaxK+1)], pattern))
	}
	return edits
}

// tableOfBeginnings has a row for each beginning of a piece, and in it a number for each beginning of the pattern. The
// least of the numbers of the whole pattern is told.
func tableOfBeginnings(piece, pattern string) int {
	row := make([]int, len(pattern)+1)
	next := make([]int, len(pattern)+1)
	for j := range row {
		row[j] = j
	}
	least := len(pattern)
	for i := range len(piece) {
		next[0] = i + 1
		for j := range len(pattern) {
			same := row[j]
			if pattern[j] != piece[i] {
				same++
			}
			next[j+1] = min(same, row[j+1]+1, next[j]+1)
		}
		row, next = next, row
		least = min(least, row[len(pattern)])
	}
	return least
}

func within(numbers []int, k int) []int {
	var places []int
	for place, number := range numbers {
		if number <= k {
			places = append(places, place)
		}
	}
	return places
}

// checkNear holds Wrong and, if k is below the pattern's length, Edits against what a plain look tells of each place.
func checkNear(t *testing.T, image, text, pattern string, wrong, edits []int, k int) {
	t.Helper()
	want := within(wrong, k)
	if places, e := seeker.Wrong(image, pattern, k); !slices.Equal(places, want) || e != api.OK {
		t.Errorf("P10: %q in %.40q within %d wrong bytes: %v, %d, want %v", pattern, text, k, short(places), e, short(want))
	}
	if k >= len(pattern) {
		return
	}
	want = within(edits, k)
	if places, e := seeker.Edits(image, pattern, k); !slices.Equal(places, want) || e != api.OK {
		t.Errorf("P11: %q in %.40q within %d edits: %v, %d, want %v", pattern, text, k, short(places), e, short(want))
	}
}

// checkEachK is checkNear with every k that may be.
func checkEachK(t *testing.T, image, text, pattern string) {
	t.Helper()
	wrong, edits := plainWrong(text, pattern), plainEdits(text, pattern)
	for k := range api.MaxK + 1 {
		checkNear(t, image, text, pattern, wrong, edits, k)
	}
}

func upTo(last int) []int {
	var numbers []int
	for i := range last + 1 {
		numbers = append(numbers, i)
	}
	return numbers
}

func TestP10Examples(t *testing.T) {
	for _, rate := range someRates() {
		for _, c := range []struct {
			text, pattern string
			k             int
			places        []int
		}{
			{"abracadabra", "abba", 1, []int{0, 7}}, {"abracadabra", "abba", 0, nil}, {"abracadabra", "abba", 4, upTo(7)},
			{"abracadabra", "zz", 2, upTo(9)}, {"abracadabra", "zz", 1, nil}, {"abracadabra", "abracadabraz", 4, nil},
			{"abracadabra", "zzzzcadabra", 4, []int{0}}, {"abracadabra", "zzzzzadabra", 4, nil}, {"", "a", 4, nil}, {"", "ab", 1, nil},
			{"a", "b", 0, nil}, {"a", "b", 1, []int{0}}, {"a", "bb", 4, nil},
		} {
			image := mustBuild(t, c.text, rate)
			if places, e := seeker.Wrong(image, c.pattern, c.k); !slices.Equal(places, c.places) || e != api.OK {
				t.Errorf("Wrong of %q, %d in %q: %v, %d, want %v", c.pattern, c.k, c.text, places, e, c.places)
			}
		}
	}
}

func TestP11Examples(t *testing.T) {
	for _, rate := range someRates() {
		for _, c := range []struct {
			text, pattern string
			k             int
			places        []int
			e             api.Errno
		}{
			{"abracadabra", "abrca", 1, []int{0, 7}, api.OK}, {"abracadabra", "aca", 1, []int{2, 3, 4, 5}, api.OK},
			{"abracadabra", "x", 1, nil, api.ErrK}, {"abracadabra", "x", 0, nil, api.OK},
			{"abracadabra", "xa", 1, []int{0, 2, 3, 4, 5, 6, 7, 9, 10}, api.OK},
			{"", "ab", 1, nil, api.OK}, {"", "a", 0, nil, api.OK}, {"", "abcde", 4, nil, api.OK},
			{"a", "abcde", 4, []int{0}, api.OK}, {"abc", "ac", 1, []int{0, 1, 2}, api.OK},
		} {
			image := mustBuild(t, c.text, rate)
			if places, e := seeker.Edits(image, c.pattern, c.k); !slices.Equal(places, c.places) || e != c.e {
				t.Errorf("Edits of %q, %d in %q: %v, %d, want %v, %d", c.pattern, c.k, c.text, places, e, c.places, c.e)
			}
		}
	}
}

// edited has so many edits done to a piece, as far as it stays a pattern; their bytes stand in the text or not.
func edited(r *rand.Rand, text, piece string, edits int) string {
	b := []byte(piece)
	for range edits {
		at := r.Intn(len(b))
		c := []byte{0, 255, 'x', text[r.Intn(len(text))]}[r.Intn(4)]
		switch kind := r.Intn(3); {
		case kind == 0 && len(b) < api.MaxPattern:
			b = slices.Insert(b, at, c)
		case kind == 1 && len(b) > 1:
			b = slices.Delete(b, at, at+1)
		default:
			b[at] = c
		}
	}
	return string(b)
}

// nearPatternsFor are also those that stand in a text but for some edits, one more than may be too.
func nearPatternsFor(r *rand.Rand, text string) []string {
	patterns := patternsFor(r, text)
	for _, piece := range piecesOf(r, text) {
		for edits := 1; edits <= api.MaxK+1; edits++ {
			patterns = append(patterns, edited(r, text, piece, edits))
		}
	}
	return patterns
}

// TestNearEveryPlace: each pattern has one rate, in turns, and in the longest texts one k.
func TestNearEveryPlace(t *testing.T) {
	rates := someRates()
	for i, text := range edgeTexts() {
		t.Run("", func(t *testing.T) {
			t.Parallel()
			var images []string
			for _, rate := range rates {
				images = append(images, mustBuild(t, text, rate))
			}
			for j, pattern := range nearPatternsFor(rand.New(rand.NewSource(int64(i))), text) {
				if len(text) < api.MaxText {
					checkEachK(t, images[j%len(rates)], text, pattern)
				} else {
					wrong, edits := plainWrong(text, pattern), plainEdits(text, pattern)
					checkNear(t, images[j%len(rates)], text, pattern, wrong, edits, j%(api.MaxK+1))
				}
			}
		})
	}
}

// TestNearEachRate: the way from a row to its place has another length at each rate.
func TestNearEachRate(t *testing.T) {
	text := strings.Repeat("abaab", 30) + "abb"
	for rate := 1; rate <= api.MaxRate; rate++ {
		image := mustBuild(t, text, rate)
		for _, pattern := range []string{"a", "bb", "abb", "xbabx", strings.Repeat("ab", 15)} {
			checkEachK(t, image, text, pattern)
		}
	}
}

// TestNearAllShort: every short pattern in every short text, a byte in it that the text has not too.
func TestNearAllShort(t *testing.T) {
	var patterns []string
	for size := 1; size <= 4; size++ {
		patterns = append(patterns, allStrings("\x00\xffx", size)...)
	}
	patterns = append(patterns, allStrings("\x00\xff", 5)...)
	for size := range 6 {
		for _, text := range allStrings("\x00\xff", size) {
			image := mustBuild(t, text, 2)
			for _, pattern := range patterns {
				checkEachK(t, image, text, pattern)
			}
		}
	}
}

func TestNearDrawn(t *testing.T) {
	r := rand.New(rand.NewSource(103))
	for range 3000 {
		kinds := []int{1, 2, 3, 8, 9, 256}[r.Intn(6)]
		text := drawText(r, 1+r.Intn(80), kinds)
		from := r.Intn(len(text))
		piece := text[from:min(len(text), from+1+r.Intn(api.MaxPattern))]
		checkEachK(t, mustBuild(t, text, 1+r.Intn(api.MaxRate)), text, edited(r, text, piece, r.Intn(api.MaxK+3)))
	}
}

// TestNearRuns: in runs, of a pattern nearly everything stands nearly everywhere.
func TestNearRuns(t *testing.T) {
	for _, c := range []string{"\x00", "a", "\xff"} {
		for _, n := range []int{1, 2, 5, 26, 29, 30, 31, 34, 35, 200} {
			text := strings.Repeat(c, n)
			image := mustBuild(t, text, 64)
			for _, m := range []int{1, 2, 4, 5, 6, 29, 30} {
				checkEachK(t, image, text, strings.Repeat(c, m))
				checkEachK(t, image, text, strings.Repeat("x", min(m, api.MaxK))+strings.Repeat(c, max(0, m-api.MaxK)))
				checkEachK(t, image, text, strings.Repeat(c, max(0, m-api.MaxK))+strings.Repeat("x", min(m, api.MaxK)))
				checkEachK(t, image, text, strings.Repeat("x", m))
			}
		}
	}
}

// TestP10NoLongerThanK: such a pattern stands wherever it has room, in texts without any of its bytes too.
func TestP10NoLongerThanK(t *testing.T) {
	for _, text := range []string{"", "a", "ab", "abc", "abcd", "abracadabra", strings.Repeat("the quick brown fox ", 100)} {
		image := mustBuild(t, text, 7)
		for k := 1; k <= api.MaxK; k++ {
			for size := 1; size <= k; size++ {
				want := upTo(len(text) - size)
				for _, c := range []string{"\x00", "a", "\xff"} {
					if places, e := seeker.Wrong(image, strings.Repeat(c, size), k); !slices.Equal(places, want) || e != api.OK {
						t.Errorf("%d bytes, %d wrong, in %.20q: %v, %d, want %v", size, k, text, short(places), e, short(want))
					}
				}
			}
		}
	}
}

// TestNearAndLocate: with k 0 both are what Locate tells; and what stands there within k wrong bytes stands there
// within k edits, and within k + 1 of them.
func TestNearAndLocate(t *testing.T) {
	r := rand.New(rand.NewSource(107))
	for _, size := range []int{0, 1, 11, 90, 400} {
		for _, kinds := range []int{1, 2, 8, 9, 256} {
			text := drawText(r, size, kinds)
			image := mustBuild(t, text, 1+r.Intn(api.MaxRate))
			for _, pattern := range patternsFor(r, text) {
				located, _ := seeker.Locate(image, pattern)
				wrong, _ := seeker.Wrong(image, pattern, 0)
				edits, _ := seeker.Edits(image, pattern, 0)
				if !slices.Equal(wrong, located) || !slices.Equal(edits, located) {
					t.Fatalf("%q in %.40q: located %v, with no wrong byte %v, with no edit %v", pattern, text, located, wrong, edits)
				}
				for k := 1; k <= api.MaxK && k < len(pattern); k++ {
					moreWrong, _ := seeker.Wrong(image, pattern, k)
					moreEdits, _ := seeker.Edits(image, pattern, k)
					mustHaveAll(t, moreWrong, wrong)
					mustHaveAll(t, moreEdits, edits)
					mustHaveAll(t, moreEdits, moreWrong)
					wrong, edits = moreWrong, moreEdits
				}
			}
		}
	}
}

// mustHaveAll: the places rise, each once, and all of the others are among them.
func mustHaveAll(t *testing.T, places, others []int) {
	t.Helper()
	for i := 1; i < len(places); i++ {
		if places[i-1] >= places[i] {
			t.Fatalf("not rising: %v", places)
		}
	}
	for _, place := range others {
		if _, ok := slices.BinarySearch(places, place); !ok {
			t.Fatalf("%d is not among %v", place, places)
		}
	}
}

func badNumbersOfK() []int {
	return []int{math.MinInt, math.MinInt + 1, -1 << 32, -1, api.MaxK + 1, 64, 256, 1 << 32, 1 + 1<<32, math.MaxInt - 1, math.MaxInt}
}

func checkNearError(t *testing.T, image, pattern string, k int, want api.Errno) {
	t.Helper()
	if places, e := seeker.Wrong(image, pattern, k); len(places) != 0 || e != want {
		t.Errorf("Wrong(%.20q, %d bytes, %d) = %v, %d, want %d", image, len(pattern), k, short(places), e, want)
	}
	if places, e := seeker.Edits(image, pattern, k); len(places) != 0 || e != want {
		t.Errorf("Edits(%.20q, %d bytes, %d) = %v, %d, want %d", image, len(pattern), k, short(places), e, want)
	}
}

// TestNearErrors: what is no image goes ahead of a wrong pattern, and this one ahead of a k that may not be.
func TestNearErrors(t *testing.T) {
	tooLong := []string{strings.Repeat("a", api.MaxPattern+1), strings.Repeat("\xff", 1<<16)}
	good := mustBuild(t, "abracadabra", 3)
	for _, k := range append(badNumbersOfK(), upTo(api.MaxK)...) {
		for _, image := range []string{"", "\x00", "abracadabra", good + "\x00", good[:len(good)-1], good[1:]} {
			for _, pattern := range append(tooLong, "", "a", strings.Repeat("a", api.MaxPattern)) {
				checkNearError(t, image, pattern, k, api.ErrImage)
			}
		}
		for _, image := range someImages(t) {
			checkNearError(t, image, "", k, api.ErrEmpty)
			for _, pattern := range tooLong {
				checkNearError(t, image, pattern, k, api.ErrPattern)
			}
		}
	}
	for _, image := range someImages(t) {
		for _, k := range badNumbersOfK() {
			for _, pattern := range []string{"a", "\x00", "abra", strings.Repeat("a", api.MaxPattern)} {
				checkNearError(t, image, pattern, k, api.ErrK)
			}
		}
	}
}

// TestP11KBelowLength: Edits alone asks that k be below the pattern's length.
func TestP11KBelowLength(t *testing.T) {
	for _, image := range someImages(t) {
		for size := 1; size <= api.MaxK+2; size++ {
			pattern := strings.Repeat("a", size)
			for k := range api.MaxK + 1 {
				want := api.OK
				if k >= size {
					want = api.ErrK
				}
				if places, e := seeker.Edits(image, pattern, k); e != want || e != api.OK && len(places) != 0 {
					t.Errorf("Edits of %d bytes, %d: %v, %d, want %d", size, k, short(places), e, want)
				}
				if _, e := seeker.Wrong(image, pattern, k); e != api.OK {
					t.Errorf("Wrong of %d bytes, %d: %d", size, k, e)
				}
			}
		}
	}
}

// TestP2ListsAreNewMemory: writing into a list and appending to it changes no other list and no later answer, neither of
// the same call nor of another one.
func TestP2ListsAreNewMemory(t *testing.T) {
	for _, text := range []string{"", "a", "abracadabra", "the quick brown fox", strings.Repeat("a", api.MaxText)} {
		for _, rate := range someRates() {
			image := mustBuild(t, text, rate)
			lists := func() [][]int {
				rows, _ := seeker.Suffixes(text)
				located, _ := seeker.Locate(image, "a")
				same, _ := seeker.Wrong(image, "a", 0)
				wrong, _ := seeker.Wrong(image, "ab", 1)
				none, _ := seeker.Wrong(image, "\x00", 0)
				equal, _ := seeker.Edits(image, "a", 0)
				edits, _ := seeker.Edits(image, "ab", 1)
				return [][]int{rows, located, same, wrong, none, equal, edits}
			}
			want := lists()
			for i := range want {
				want[i] = slices.Clone(want[i])
			}
			for i := range want {
				spoiled, others := lists(), lists()
				longer := append(spoiled[i], -7)
				for j := range longer[:cap(longer)] {
					longer[:cap(longer)][j] = -7
				}
				for j := range spoiled[i] {
					spoiled[i][j] = -7
				}
				clear(spoiled[i][len(spoiled[i]):cap(spoiled[i])])
				spoiled[i] = slices.Clone(want[i])
				for _, got := range [][][]int{spoiled, others, lists()} {
					if !slices.EqualFunc(got, want, slices.Equal[[]int]) {
						t.Fatalf("%.20q, rate %d: a change of list %d shows in another", text, rate, i)
					}
				}
			}
		}
	}
}
