package seeker_test

import (
	"math"
	"math/rand"
	"slices"
	"strings"
	"testing"

	"seeker/api"
	"seeker/seeker"
)

const theEnd = -1

// plainAhead tells what stands ahead of each row, as a number; the END is less than every byte.
func plainAhead(text string) []int {
	var ahead []int
	for _, place := range plainRows(text) {
		if place == 0 {
			ahead = append(ahead, theEnd)
		} else {
			ahead = append(ahead, int(text[place-1]))
		}
	}
	return ahead
}

func plainRank(ahead []int, c, row int) (same, less int) {
	for _, b := range ahead[:row] {
		if b == c {
			same++
		}
		if b < c {
			less++
		}
	}
	return same, less
}

func backwards(text string) string {
	b := []byte(text)
	slices.Reverse(b)
	return string(b)
}

// plainNarrow follows the document's words: one more than how many bytes of the text are less than c, and how many
// rows ahead have c ahead of them.
func plainNarrow(ahead []int, low, high, c int) (newLow, newHigh, passed int) {
	first := 1
	for _, b := range ahead {
		if b != theEnd && b < c {
			first++
		}
	}
	sameLow, _ := plainRank(ahead, c, low)
	sameHigh, _ := plainRank(ahead, c, high)
	for _, b := range ahead[low:high] {
		if b < c {
			passed++
		}
	}
	return first + sameLow, first + sameHigh, passed
}

func plainLeft(ahead []int, p api.Pair, c int) api.Pair {
	low, high, passed := plainNarrow(ahead, p.Low, p.High, c)
	return api.Pair{Low: low, High: high, Back: p.Back + passed}
}

func plainRight(aheadBack []int, p api.Pair, c int) api.Pair {
	low, high, passed := plainNarrow(aheadBack, p.Back, p.Back+p.High-p.Low, c)
	return api.Pair{Low: p.Low + passed, High: p.Low + passed + high - low, Back: low}
}

// plainInterval looks at every row, whether its suffix begins with the pattern.
func plainInterval(text, pattern string) (low, high int) {
	count := 0
	for _, place := range plainRows(text) {
		if strings.HasPrefix(text[place:], pattern) {
			count++
		} else if text[place:] < pattern {
			low++
		}
	}
	return low, low + count
}

func plainPair(text, pattern string) api.Pair {
	low, high := plainInterval(text, pattern)
	back, _ := plainInterval(backwards(text), backwards(pattern))
	return api.Pair{Low: low, High: high, Back: back}
}

func TestP7Example3(t *testing.T) {
	image := mustBuild(t, "abracadabra", 4)
	for _, c := range []struct {
		c          byte
		row        int
		same, less int
	}{{'a', 12, 5, 1}, {'a', 3, 1, 0}, {'r', 5, 2, 3}} {
		if same, less, e := seeker.Rank(image, int(c.c), c.row); same != c.same || less != c.less || e != api.OK {
			t.Errorf("Rank of %c at %d: %d, %d, %d", c.c, c.row, same, less, e)
		}
	}
}

func TestP7Example4(t *testing.T) {
	image := mustBuild(t, "abracadabra", 4)
	p, e := seeker.Left(image, api.Pair{High: 12}, 'a')
	if p != (api.Pair{Low: 1, High: 6, Back: 1}) || e != api.OK {
		t.Errorf("a to the left: %v, %d", p, e)
	}
	p, e = seeker.Right(image, p, 'b')
	if p != (api.Pair{Low: 2, High: 4, Back: 6}) || e != api.OK {
		t.Errorf("b to the right: %v, %d", p, e)
	}
	p, e = seeker.Right(image, p, 'r')
	if p != (api.Pair{Low: 2, High: 4, Back: 10}) || e != api.OK {
		t.Errorf("r to the right: %v, %d", p, e)
	}
}

// rankedTexts are of few and of many different bytes, the END's row at both edges and between.
func rankedTexts() []string {
	r := rand.New(rand.NewSource(47))
	return []string{
		"", "a", "\x00", "\xff", "\x00\xff", "aaa", "abracadabra", "abcdefgh", "abcdefghi", "ihgfedcba",
		drawText(r, 65, 2), drawText(r, 130, 8), drawText(r, 130, 9), drawText(r, 200, 256),
	}
}

func TestP7EveryRank(t *testing.T) {
	for _, text := range rankedTexts() {
		image := mustBuild(t, text, 5)
		ahead := plainAhead(text)
		for row := range len(text) + 2 {
			for _, c := range []int{0, 1, 'a' - 1, 'a', 'b', 'c', 'h', 'i', 127, 128, 254, 255} {
				same, less, e := seeker.Rank(image, c, row)
				wantSame, wantLess := plainRank(ahead, c, row)
				if same != wantSame || less != wantLess || e != api.OK {
					t.Fatalf("%.20q: Rank(%d, %d) = %d, %d, %d, want %d, %d", text, c, row, same, less, e, wantSame, wantLess)
				}
			}
		}
	}
}

func TestP7EveryByteRanked(t *testing.T) {
	r := rand.New(rand.NewSource(53))
	for _, text := range append(rankedTexts(), drawText(r, api.MaxText, 3), drawText(r, api.MaxText, 256)) {
		image := mustBuild(t, text, 64)
		ahead := plainAhead(text)
		for c := range 256 {
			row := r.Intn(len(text) + 2)
			same, less, e := seeker.Rank(image, c, row)
			wantSame, wantLess := plainRank(ahead, c, row)
			if same != wantSame || less != wantLess || e != api.OK {
				t.Fatalf("%.20q: Rank(%d, %d) = %d, %d, %d, want %d, %d", text, c, row, same, less, e, wantSame, wantLess)
			}
		}
	}
}

func TestP7RankOutOfRange(t *testing.T) {
	for _, text := range []string{"", "a", "abracadabra", strings.Repeat("abcdefghi", 222)} {
		image := mustBuild(t, text, 2)
		n := len(text)
		for _, c := range []int{-1, 0, 'a', 255, 256, 256 + 'a', math.MinInt, math.MaxInt, 'a' + 1<<32} {
			for _, row := range []int{-1, 0, n, n + 1, n + 2, math.MinInt, math.MaxInt, 1 << 32, -1 << 32} {
				want := api.OK
				if c < 0 || c > 255 || row < 0 || row > n+1 {
					want = api.ErrRange
				}
				same, less, e := seeker.Rank(image, c, row)
				if e != want || e != api.OK && (same != 0 || less != 0) {
					t.Errorf("%.20q: Rank(%d, %d) = %d, %d, %d, want %d", text, c, row, same, less, e, want)
				}
			}
		}
	}
}

func checkGrown(t *testing.T, text, image string, ahead, aheadBack []int, p api.Pair, c int) {
	t.Helper()
	if got, e := seeker.Left(image, p, c); got != plainLeft(ahead, p, c) || e != api.OK {
		t.Fatalf("%.20q: Left(%v, %d) = %v, %d, want %v", text, p, c, got, e, plainLeft(ahead, p, c))
	}
	if got, e := seeker.Right(image, p, c); got != plainRight(aheadBack, p, c) || e != api.OK {
		t.Fatalf("%.20q: Right(%v, %d) = %v, %d, want %v", text, p, c, got, e, plainRight(aheadBack, p, c))
	}
}

// TestP7EveryPair: all pairs of short texts, be they of a pattern or not.
func TestP7EveryPair(t *testing.T) {
	for _, text := range []string{"", "a", "\x00\xff", "aab", "abcba", "edcbabcde"} {
		image := mustBuild(t, text, 1)
		ahead, aheadBack := plainAhead(text), plainAhead(backwards(text))
		rows := len(text) + 1
		for low := range rows + 1 {
			for high := low; high <= rows; high++ {
				for back := 0; back <= rows-(high-low); back++ {
					for _, c := range []int{0, 'a', 'b', 'e', 255} {
						checkGrown(t, text, image, ahead, aheadBack, api.Pair{Low: low, High: high, Back: back}, c)
					}
				}
			}
		}
	}
}

func TestP7DrawnPairs(t *testing.T) {
	r := rand.New(rand.NewSource(59))
	for _, text := range append(rankedTexts(), drawText(r, api.MaxText, 2), drawText(r, api.MaxText, 256)) {
		image := mustBuild(t, text, 1+r.Intn(64))
		ahead, aheadBack := plainAhead(text), plainAhead(backwards(text))
		rows := len(text) + 1
		for c := range 256 {
			low := r.Intn(rows + 1)
			high := low + r.Intn(rows+1-low)
			back := r.Intn(rows - (high - low) + 1)
			checkGrown(t, text, image, ahead, aheadBack, api.Pair{Low: low, High: high, Back: back}, c)
		}
	}
}

// isPlainPair follows the document's words, in numbers that do not wrap round: all are at most some thousands here, or
// so great that they are out of range by themselves.
func isPlainPair(p api.Pair, n int) bool {
	for _, number := range []int{p.Low, p.High, p.Back} {
		if number < 0 || number > n+1 {
			return false
		}
	}
	return p.Low <= p.High && p.Back <= n+1-(p.High-p.Low)
}

func TestP7PairsThatAreNone(t *testing.T) {
	for _, text := range []string{"", "a", "abracadabra", "the quick brown fox"} {
		image := mustBuild(t, text, 2)
		n := len(text)
		numbers := []int{
			math.MinInt, math.MinInt + 1, math.MinInt / 2, -1 << 32, -n - 2, -n - 1, -1, 0, 1, n - 1, n, n + 1, n + 2,
			1 << 32, math.MaxInt / 2, math.MaxInt - n, math.MaxInt - 1, math.MaxInt,
		}
		for _, low := range numbers {
			for _, high := range numbers {
				for _, back := range numbers {
					p := api.Pair{Low: low, High: high, Back: back}
					want := api.OK
					if !isPlainPair(p, n) {
						want = api.ErrRange
					}
					left, e := seeker.Left(image, p, 'a')
					right, f := seeker.Right(image, p, 'a')
					if e != want || f != want || want != api.OK && (left != api.Pair{} || right != api.Pair{}) {
						t.Fatalf("%q, %v: Left %v, %d, Right %v, %d, want %d", text, p, left, e, right, f, want)
					}
				}
			}
		}
	}
}

func TestP7BytesThatAreNone(t *testing.T) {
	image := mustBuild(t, "abracadabra", 2)
	for _, c := range []int{-1, 256, 256 + 'a', 'a' - 256, math.MinInt, math.MaxInt, 'a' + 1<<32} {
		for _, p := range []api.Pair{{High: 12}, {}, {Low: 3, High: 5, Back: 10}, {Low: -1}} {
			left, e := seeker.Left(image, p, c)
			right, f := seeker.Right(image, p, c)
			if left != (api.Pair{}) || right != (api.Pair{}) || e != api.ErrRange || f != api.ErrRange {
				t.Errorf("%v by %d: Left %v, %d, Right %v, %d", p, c, left, e, right, f)
			}
		}
	}
}

// walk makes a piece of a text out of nothing, from a place in it on, to either side as is drawn.
func walk(t *testing.T, r *rand.Rand, image, text string, from, to int) api.Pair {
	t.Helper()
	p := api.Pair{High: len(text) + 1}
	start := from + r.Intn(to-from+1)
	left, right := start, start
	for left > from || right < to {
		e := api.OK
		if right == to || left > from && r.Intn(2) == 0 {
			left--
			p, e = seeker.Left(image, p, int(text[left]))
		} else {
			p, e = seeker.Right(image, p, int(text[right]))
			right++
		}
		if want := plainPair(text, text[left:right]); p != want || e != api.OK {
			t.Fatalf("%q in %.60q: %v, %d, want %v", text[left:right], text, p, e, want)
		}
	}
	return p
}

// TestP8AnyOrder: a piece has one pair, however it is made, and as many rows as places.
func TestP8AnyOrder(t *testing.T) {
	r := rand.New(rand.NewSource(61))
	for range 150 {
		text := drawText(r, 1+r.Intn(60), 1+r.Intn(12))
		image := mustBuild(t, text, 1+r.Intn(api.MaxRate))
		from := r.Intn(len(text))
		to := min(len(text), from+r.Intn(10))
		for range 3 {
			p := walk(t, r, image, text, from, to)
			if p.High-p.Low != len(plainPlaces(text, text[from:to])) {
				t.Fatalf("%q in %q: %v", text[from:to], text, p)
			}
		}
	}
}

// TestP8WhatIsNotThere: from each piece, each byte leads to the pair of the longer piece, or to none.
func TestP8WhatIsNotThere(t *testing.T) {
	r := rand.New(rand.NewSource(67))
	for _, text := range []string{"", "a", "aaa", "abracadabra", "mississippi", "the quick brown fox", "\x00\xff\x00\x01"} {
		image := mustBuild(t, text, 3)
		for from := range len(text) + 1 {
			to := from + r.Intn(min(5, len(text)-from)+1)
			p := plainPair(text, text[from:to])
			for _, c := range []byte("\x00\x01 abcdeimopqrsx\xff") {
				piece, added := text[from:to], string([]byte{c})
				left, e := seeker.Left(image, p, int(c))
				checkLonger(t, text, added+piece, left, e)
				right, e := seeker.Right(image, p, int(c))
				checkLonger(t, text, piece+added, right, e)
			}
		}
	}
}

func checkLonger(t *testing.T, text, longer string, got api.Pair, e api.Errno) {
	t.Helper()
	if e != api.OK {
		t.Fatalf("%q in %q: %d", longer, text, e)
	}
	if len(plainPlaces(text, longer)) == 0 {
		if got.High != got.Low {
			t.Fatalf("%q does not stand in %q, and has %v", longer, text, got)
		}
	} else if want := plainPair(text, longer); got != want {
		t.Fatalf("%q in %q: %v, want %v", longer, text, got, want)
	}
}

// TestP8LongTexts has the longest texts, of few and of many different bytes.
func TestP8LongTexts(t *testing.T) {
	r := rand.New(rand.NewSource(71))
	for _, text := range []string{strings.Repeat("a", api.MaxText), strings.Repeat("abc", 666), drawText(r, api.MaxText, 256)} {
		image := mustBuild(t, text, 64)
		for range 3 {
			from := r.Intn(len(text) - 8)
			walk(t, r, image, text, from, from+8)
		}
	}
}
