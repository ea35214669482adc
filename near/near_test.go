package near

import (
	"math/rand"
	"slices"
	"strings"
	"testing"

	"seeker/api"
	"seeker/index"
)

const tooMany = 1000

// plainLeast tells of each place the fewest edits of these kinds after which the pattern stands there.
func plainLeast(text, pattern string, kinds []int) []int {
	var price [Replace + 1]int
	for kind := range price {
		price[kind] = tooMany
		if slices.Contains(kinds, kind) {
			price[kind] = 1
		}
	}
	var least []int
	for place := range len(text) + 1 {
		least = append(least, plainTable(text[place:], pattern, price))
	}
	return least
}

// plainTable has a row for each beginning of the rest, and in it a number for each beginning of the pattern.
func plainTable(rest, pattern string, price [Replace + 1]int) int {
	row := []int{0}
	for j := range len(pattern) {
		row = append(row, row[j]+price[TakeAway])
	}
	best := row[len(pattern)]
	for i := range min(len(rest), len(pattern)+api.MaxK+1) {
		next := []int{row[0] + price[PutIn]}
		for j := range len(pattern) {
			same := row[j]
			if pattern[j] != rest[i] {
				same += price[Replace]
			}
			next = append(next, min(same, row[j+1]+price[PutIn], next[j]+price[TakeAway]))
		}
		row = next
		best = min(best, row[len(pattern)])
	}
	return best
}

// short is as much of a list as is good to read when a test fails.
func short(list []int) []int { return list[:min(len(list), 40)] }

func drawText(r *rand.Rand, size, kinds int) string {
	b := make([]byte, size)
	for i := range b {
		b[i] = byte(r.Intn(kinds) * 255 / max(1, kinds-1))
	}
	return string(b)
}

// check holds all numbers of edits against the plain table.
func check(t *testing.T, x *index.Index, text, pattern string, kinds []int) {
	t.Helper()
	least := plainLeast(text, pattern, kinds)
	for k := range api.MaxK + 1 {
		if k >= len(pattern) && slices.Contains(kinds, TakeAway) {
			break
		}
		var want []int
		for place, edits := range least {
			if edits <= k {
				want = append(want, place)
			}
		}
		if got := Places(x, pattern, k, kinds...); !slices.Equal(got, want) {
			t.Fatalf("%q in %.40q by %d of the kinds %v: %v, want %v", pattern, text, k, kinds, short(got), short(want))
		}
	}
}

// TestEachKind: every choice of kinds, also none, which finds just the pattern itself.
func TestEachKind(t *testing.T) {
	choices := [][]int{
		nil, {PutIn}, {TakeAway}, {Replace}, {PutIn, TakeAway}, {PutIn, Replace}, {TakeAway, Replace}, {PutIn, TakeAway, Replace},
	}
	r := rand.New(rand.NewSource(97))
	for range 300 {
		kinds := []int{1, 2, 3, 4, 9, 256}[r.Intn(6)]
		text := drawText(r, r.Intn(60), kinds)
		x := index.Of(text, 1+r.Intn(api.MaxRate))
		pattern := drawText(r, 1+r.Intn(8), kinds)
		if from := r.Intn(len(text) + 1); from < len(text) && r.Intn(2) == 0 {
			pattern = text[from:min(len(text), from+1+r.Intn(api.MaxPattern))]
		}
		for _, choice := range choices {
			check(t, x, text, pattern, choice)
		}
	}
}

// TestOrderOfKinds: in which order the kinds are named makes no difference.
func TestOrderOfKinds(t *testing.T) {
	x := index.Of("abracadabra", 2)
	want := Places(x, "aca", 2, PutIn, TakeAway, Replace)
	for _, kinds := range [][]int{{Replace, TakeAway, PutIn}, {TakeAway, PutIn, Replace}, {Replace, PutIn, TakeAway}} {
		if got := Places(x, "aca", 2, kinds...); !slices.Equal(got, want) {
			t.Errorf("%v: %v, want %v", kinds, got, want)
		}
	}
}

func TestLongest(t *testing.T) {
	r := rand.New(rand.NewSource(101))
	for _, text := range []string{
		strings.Repeat("a", api.MaxText), strings.Repeat("ab", api.MaxText/2), drawText(r, api.MaxText, 2), drawText(r, api.MaxText, 256),
	} {
		x := index.Of(text, api.MaxRate)
		for _, size := range []int{1, 5, api.MaxPattern} {
			for _, from := range []int{0, 700, len(text) - size} {
				check(t, x, text, text[from:from+size], []int{Replace})
				check(t, x, text, text[from:from+size], []int{PutIn, TakeAway, Replace})
			}
		}
	}
}
