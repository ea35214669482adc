package suffix

import (
	"math/rand"
	"slices"
	"strings"
	"testing"
)

// plainSort follows the document's words: all places, compared by their whole suffixes.
func plainSort(text string) []int {
	places := make([]int, len(text)+1)
	for i := range places {
		places[i] = i
	}
	slices.SortFunc(places, func(a, b int) int { return strings.Compare(text[a:], text[b:]) })
	return places
}

func check(t *testing.T, text string) {
	t.Helper()
	if got, want := Sort(text), plainSort(text); !slices.Equal(got, want) {
		t.Fatalf("Sort(%.40q, %d bytes) = %v, want %v", text, len(text), got, want)
	}
}

// everyText walks all texts of at most so many bytes out of an alphabet.
func everyText(alphabet string, most int, visit func(string)) {
	var grow func(string)
	grow = func(text string) {
		visit(text)
		if len(text) == most {
			return
		}
		for i := range len(alphabet) {
			grow(text + alphabet[i:i+1])
		}
	}
	grow("")
}

func TestSortEveryShortText(t *testing.T) {
	everyText("\x00a\xff", 7, func(text string) { check(t, text) })
	everyText("ab", 12, func(text string) { check(t, text) })
}

func TestSortLongTexts(t *testing.T) {
	fibonacci, ahead := "a", "b"
	for len(fibonacci) < 2000 {
		fibonacci, ahead = fibonacci+ahead, fibonacci
	}
	for _, text := range []string{
		strings.Repeat("\x00", 2000),
		strings.Repeat("\xff", 2000),
		strings.Repeat("ab", 1000),
		strings.Repeat("a", 1999) + "b",
		"b" + strings.Repeat("a", 1999),
		strings.Repeat(strings.Repeat("a", 99)+"b", 20),
		fibonacci[:2000],
	} {
		check(t, text)
	}
}

// TestSortManyKinds has texts with as many places as there are kinds of bytes, and near it.
func TestSortManyKinds(t *testing.T) {
	r := rand.New(rand.NewSource(3))
	for size := 250; size < 262; size++ {
		rising, drawn := make([]byte, size), make([]byte, size)
		for i := range rising {
			rising[i] = byte(i)
			drawn[i] = byte(r.Intn(256))
		}
		check(t, string(rising))
		slices.Reverse(rising)
		check(t, string(rising))
		check(t, string(drawn))
		check(t, strings.Repeat("a", size))
	}
}

func TestSortDrawn(t *testing.T) {
	r := rand.New(rand.NewSource(5))
	for range 300 {
		text := make([]byte, r.Intn(2001))
		kinds := 1 + r.Intn(256)
		for i := range text {
			text[i] = byte(r.Intn(kinds))
		}
		check(t, string(text))
	}
}
