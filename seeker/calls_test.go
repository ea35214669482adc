package seeker_test

import (
	"math"
	"slices"
	"strings"
	"sync"
	"testing"

	"seeker/api"
	"seeker/seeker"
)

func oddNumbers() []int {
	return []int{math.MinInt, math.MinInt32, -1, 0, 1, 2, 7, 255, 256, 2000, 2001, 2002, math.MaxInt32, math.MaxInt}
}

func oddStrings() []string {
	return []string{
		"", "\x00", "\xff", "a", "ba", "ardrcaaaabb", "\xed\xa0\x80", strings.Repeat("\xff", 31),
		strings.Repeat("\x00", api.MaxText), strings.Repeat("ab", api.MaxText), strings.Repeat("q", 1<<18),
	}
}

// someImages are of the shortest and the longest texts, of few and of many different bytes.
func someImages(t *testing.T) []string {
	t.Helper()
	return []string{
		mustBuild(t, "", 1), mustBuild(t, "a", 64), mustBuild(t, "abracadabra", 3),
		mustBuild(t, strings.Repeat("\xff", api.MaxText), 1), mustBuild(t, strings.Repeat("abcdefghi", 222), 7),
	}
}

// mustBeEmpty: with an error, nothing else may be told (P1).
func mustBeEmpty(t *testing.T, call string, e api.Errno, empty bool) {
	t.Helper()
	if e < api.OK || e > api.ErrK {
		t.Errorf("%s: no such error: %d", call, e)
	}
	if e != api.OK && !empty {
		t.Errorf("%s: error %d with another result", call, e)
	}
}

// TestP1OddArguments: each call ends without a panic, at all numbers and strings.
func TestP1OddArguments(t *testing.T) {
	for _, s := range append(oddStrings(), someImages(t)...) {
		rows, e := seeker.Suffixes(s)
		mustBeEmpty(t, "Suffixes", e, len(rows) == 0)
		bytes, end, e := seeker.Transform(s)
		mustBeEmpty(t, "Transform", e, bytes == "" && end == 0)
		text, rate, e := seeker.Text(s)
		mustBeEmpty(t, "Text", e, text == "" && rate == 0)
		for _, number := range oddNumbers() {
			text, e := seeker.Restore(s, number)
			mustBeEmpty(t, "Restore", e, text == "")
			image, e := seeker.Build(s, number)
			mustBeEmpty(t, "Build", e, image == "")
			for _, other := range oddNumbers() {
				same, less, e := seeker.Rank(s, number, other)
				mustBeEmpty(t, "Rank", e, same == 0 && less == 0)
				for _, p := range []api.Pair{{Low: number, High: other, Back: number}, {Low: number, High: number, Back: other}} {
					left, e := seeker.Left(s, p, other)
					mustBeEmpty(t, "Left", e, left == api.Pair{})
					right, e := seeker.Right(s, p, other)
					mustBeEmpty(t, "Right", e, right == api.Pair{})
				}
			}
		}
		for _, pattern := range oddStrings() {
			count, e := seeker.Count(s, pattern)
			mustBeEmpty(t, "Count", e, count == 0)
			places, e := seeker.Locate(s, pattern)
			mustBeEmpty(t, "Locate", e, len(places) == 0)
			for _, k := range oddNumbers() {
				places, e := seeker.Wrong(s, pattern, k)
				mustBeEmpty(t, "Wrong", e, len(places) == 0)
				places, e = seeker.Edits(s, pattern, k)
				mustBeEmpty(t, "Edits", e, len(places) == 0)
			}
		}
	}
}

// TestP1FirstError: too long a text goes ahead of a row that is none, and of a rate that may not be; what is no image
// goes ahead of a range, of a pattern and of a k.
func TestP1FirstError(t *testing.T) {
	long := strings.Repeat("a", api.MaxText+1)
	for _, end := range []int{-1, 0, len(long) + 1} {
		if text, e := seeker.Restore(long, end); text != "" || e != api.ErrText {
			t.Errorf("Restore(%d bytes, %d) = %.20q, %d", len(long), end, text, e)
		}
	}
	if image, e := seeker.Build(long, 0); image != "" || e != api.ErrText {
		t.Errorf("Build(%d bytes, 0) = %.20q, %d", len(long), image, e)
	}
	if _, _, e := seeker.Rank(long, -1, -1); e != api.ErrImage {
		t.Errorf("Rank(no image, -1, -1): %d", e)
	}
	if _, e := seeker.Left(long, api.Pair{Low: -1}, -1); e != api.ErrImage {
		t.Errorf("Left(no image, Low -1, -1): %d", e)
	}
	if _, e := seeker.Right(long, api.Pair{Low: -1}, -1); e != api.ErrImage {
		t.Errorf("Right(no image, Low -1, -1): %d", e)
	}
	for _, pattern := range []string{"", long} {
		checkFindingError(t, long, pattern, api.ErrImage)
		checkNearError(t, long, pattern, -1, api.ErrImage)
	}
}

// TestP2NewMemory: what is done to a list that came out is seen in no other answer.
func TestP2NewMemory(t *testing.T) {
	for _, text := range []string{"", "a", "abracadabra", strings.Repeat("a", api.MaxText)} {
		first, _ := seeker.Suffixes(text)
		kept := slices.Clone(first)
		second, _ := seeker.Suffixes(text)
		for i := range first {
			first[i] = -7
		}
		clear(first[len(first):cap(first)])
		third, _ := seeker.Suffixes(text)
		if !slices.Equal(second, kept) || !slices.Equal(third, kept) {
			t.Errorf("Suffixes(%.20q): a change of one answer shows in another", text)
		}
	}
}

// TestP2ArgumentsAlone: the same calls, among and beside others, answer the same.
func TestP2ArgumentsAlone(t *testing.T) {
	texts := edgeTexts()
	answers := func(order []string) map[string][]int {
		got := map[string][]int{}
		for _, text := range order {
			rows, _ := seeker.Suffixes(text)
			bytes, end, _ := seeker.Transform(text)
			seeker.Restore(text, end)
			back, _ := seeker.Restore(bytes, end)
			if back != text {
				t.Errorf("Restore of the transform of %.20q: %.20q", text, back)
			}
			image, _ := seeker.Build(text, 1+len(text)%api.MaxRate)
			again, rate, _ := seeker.Text(image)
			same, less, _ := seeker.Rank(image, 'a', len(text))
			left, _ := seeker.Left(image, api.Pair{High: len(text)}, 'a')
			right, _ := seeker.Right(image, left, 'b')
			count, _ := seeker.Count(image, "a")
			places, _ := seeker.Locate(image, "a")
			wrong, _ := seeker.Wrong(image, "ba", 1)
			edits, _ := seeker.Edits(image, "bab", 2)
			rows = append(rows, end, len(again), rate, same, less, left.Low, left.High, left.Back, right.Low, right.High, right.Back, count)
			rows = slices.Concat(rows, places, wrong, edits)
			for i := range len(image) {
				rows = append(rows, int(image[i]))
			}
			got[text] = rows
		}
		return got
	}
	want := answers(texts)
	backwards := slices.Clone(texts)
	slices.Reverse(backwards)
	var workers sync.WaitGroup
	for _, order := range [][]string{texts, backwards, texts, backwards} {
		workers.Go(func() {
			got := answers(order)
			for text, list := range want {
				if !slices.Equal(got[text], list) {
					t.Errorf("two answers of %.20q: %v and %v", text, short(got[text]), short(list))
				}
			}
		})
	}
	workers.Wait()
}
