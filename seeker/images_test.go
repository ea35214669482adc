package seeker_test

import (
	"math"
	"math/rand"
	"strings"
	"testing"

	"seeker/api"
	"seeker/seeker"
)

func someRates() []int { return []int{1, 2, 7, api.MaxRate} }

// mustBuild makes an image of a text and a rate that may be.
func mustBuild(t *testing.T, text string, rate int) string {
	t.Helper()
	image, e := seeker.Build(text, rate)
	if e != api.OK || image == "" {
		t.Fatalf("Build(%.20q, %d): %d bytes, %d", text, rate, len(image), e)
	}
	return image
}

func TestP6ThereAndBack(t *testing.T) {
	for _, text := range edgeTexts() {
		for _, rate := range someRates() {
			image := mustBuild(t, text, rate)
			if got, r, e := seeker.Text(image); got != text || r != rate || e != api.OK {
				t.Fatalf("Text(Build(%.20q, %d)) = %.20q, %d, %d", text, rate, got, r, e)
			}
		}
	}
}

func TestP6EveryRate(t *testing.T) {
	seen := map[string]int{}
	for rate := 1; rate <= api.MaxRate; rate++ {
		for _, text := range []string{"", "abracadabra"} {
			image := mustBuild(t, text, rate)
			if other, ok := seen[image]; ok {
				t.Errorf("%q has one image at the rates %d and %d", text, rate, other)
			}
			seen[image] = rate
			if _, r, e := seeker.Text(image); r != rate || e != api.OK {
				t.Errorf("%q at the rate %d: Text says %d, %d", text, rate, r, e)
			}
		}
	}
}

func TestP6BuildErrors(t *testing.T) {
	wrongRates := []int{0, -1, api.MaxRate + 1, math.MinInt, math.MaxInt, 1 << 32, 1 + 1<<32, 256 + 1}
	for _, rate := range wrongRates {
		for _, text := range []string{"", "a", strings.Repeat("a", api.MaxText)} {
			if image, e := seeker.Build(text, rate); image != "" || e != api.ErrRate {
				t.Errorf("Build(%.9q, %d): %d bytes, %d", text, rate, len(image), e)
			}
		}
	}
	for _, text := range tooLongTexts() {
		for _, rate := range append(wrongRates, someRates()...) {
			if image, e := seeker.Build(text, rate); image != "" || e != api.ErrText {
				t.Errorf("Build(%d bytes, %d): %d bytes, %d", len(text), rate, len(image), e)
			}
		}
	}
}

// mustBeNoImage: all calls say so, whatever else they are given.
func mustBeNoImage(t *testing.T, image string) {
	t.Helper()
	if text, rate, e := seeker.Text(image); text != "" || rate != 0 || e != api.ErrImage {
		t.Errorf("Text(%.40q) = %.20q, %d, %d", image, text, rate, e)
	}
	for _, c := range []struct {
		p      api.Pair
		c, row int
	}{{api.Pair{}, 'a', 0}, {api.Pair{High: 1}, 0, 1}, {api.Pair{Low: -1}, -1, -1}, {api.Pair{Low: 1}, 256, math.MaxInt}} {
		if same, less, e := seeker.Rank(image, c.c, c.row); same != 0 || less != 0 || e != api.ErrImage {
			t.Errorf("Rank(%.40q, %d, %d) = %d, %d, %d", image, c.c, c.row, same, less, e)
		}
		if p, e := seeker.Left(image, c.p, c.c); p != (api.Pair{}) || e != api.ErrImage {
			t.Errorf("Left(%.40q, %v, %d) = %v, %d", image, c.p, c.c, p, e)
		}
		if p, e := seeker.Right(image, c.p, c.c); p != (api.Pair{}) || e != api.ErrImage {
			t.Errorf("Right(%.40q, %v, %d) = %v, %d", image, c.p, c.c, p, e)
		}
	}
	for _, pattern := range []string{"", "a", "\x00", strings.Repeat("a", api.MaxPattern+1)} {
		checkFindingError(t, image, pattern, api.ErrImage)
		checkNearError(t, image, pattern, len(pattern)-1, api.ErrImage) // a k that may be and one that may not
	}
}

// mustAnswerOf: the calls answer of this text.
func mustAnswerOf(t *testing.T, image, text string) {
	t.Helper()
	rows := len(text) + 1
	high := 1
	for i := range len(text) {
		if text[i] <= 'a' {
			high++
		}
	}
	p := api.Pair{High: rows}
	if same, _, e := seeker.Rank(image, 'a', rows); same != strings.Count(text, "a") || e != api.OK {
		t.Errorf("Rank of a at the end of %.40q: %d, %d", text, same, e)
	}
	left, e := seeker.Left(image, p, 'a')
	right, f := seeker.Right(image, p, 'a')
	if left != right || left.High != high || e != api.OK || f != api.OK {
		t.Errorf("a to the left and the right of nothing in %.40q: %v, %v, %d, %d", text, left, right, e, f)
	}
	if _, _, e := seeker.Rank(image, 'a', rows+1); e != api.ErrRange {
		t.Errorf("Rank of a behind the end of %.40q: %d", text, e)
	}
	checkFound(t, image, text, "a")
	if text != "" {
		piece := text[len(text)/2 : min(len(text), len(text)/2+3)]
		checkFound(t, image, text, piece)
		pattern := "a" + piece
		checkNear(t, image, text, pattern, plainWrong(text, pattern), plainEdits(text, pattern), 1)
	}
	if places, e := seeker.Wrong(image, "ab", 2); len(places) != max(0, len(text)-1) || e != api.OK {
		t.Errorf("ab within 2 wrong bytes in %.40q: %v, %d", text, short(places), e)
	}
	checkNearError(t, image, "a", -1, api.ErrK)
}

// mustBeOneOrNone is P6, of any bytes. It tells whether they are an image.
func mustBeOneOrNone(t *testing.T, image string) bool {
	t.Helper()
	text, rate, e := seeker.Text(image)
	if e != api.OK {
		mustBeNoImage(t, image)
		return false
	}
	if again, e := seeker.Build(text, rate); again != image || e != api.OK {
		t.Errorf("%.60q is taken for the image of %.40q, %d, which is %.60q, %d", image, text, rate, again, e)
	}
	mustAnswerOf(t, image, text)
	return true
}

func TestP6NoImages(t *testing.T) {
	good := mustBuild(t, "abracadabra", 3)
	for _, image := range []string{
		"", good + "x", good + "\x00", "\x00" + good, good + good, good[1:], "abracadabra", "ardrcaaaabb",
	} {
		mustBeNoImage(t, image)
	}
}

func TestP6AnyBytes(t *testing.T) {
	for c := range 256 {
		for _, size := range []int{1, 2, 3, 30, 500, 5000, 1 << 17} {
			mustBeOneOrNone(t, strings.Repeat(string([]byte{byte(c)}), size))
		}
	}
	r := rand.New(rand.NewSource(37))
	for range 2000 {
		mustBeOneOrNone(t, drawText(r, r.Intn(60), 1+r.Intn(256)))
	}
}

// changedTexts are few and many different bytes, and texts whose images a changed byte may turn into another one.
func changedTexts() []string {
	r := rand.New(rand.NewSource(41))
	return []string{"", "a", "\x00", "aa", "ab", "abracadabra", "the quick brown fox", drawText(r, 40, 256)}
}

func TestP6CutShortAndLonger(t *testing.T) {
	for _, text := range changedTexts() {
		for _, rate := range []int{1, 3, api.MaxRate} {
			image := mustBuild(t, text, rate)
			for i := range len(image) {
				mustBeOneOrNone(t, image[:i])
				mustBeOneOrNone(t, image[i+1:])
				mustBeOneOrNone(t, image[:i]+image[i+1:])
				mustBeOneOrNone(t, image[:i]+"\x00"+image[i:])
			}
			for _, more := range []string{"\x00", "\x01", "\xff", "x", "\x00\x00", image} {
				if mustBeOneOrNone(t, image+more) {
					t.Errorf("the image of %q with %q behind it is taken for one", text, more)
				}
			}
		}
	}
}

// TestP6EveryByteChanged: in the images of the shortest texts to every other byte, in those of longer ones to some.
func TestP6EveryByteChanged(t *testing.T) {
	for _, text := range changedTexts() {
		step := 1
		if len(text) > 2 {
			step = len(text)
		}
		for _, rate := range []int{1, 3} {
			image := mustBuild(t, text, rate)
			for i := range len(image) {
				for by := 1; by < 256; by += step {
					changed := []byte(image)
					changed[i] += byte(by)
					mustBeOneOrNone(t, string(changed))
				}
			}
		}
	}
}

// TestP6LongOnesChanged: the greatest images too, a byte of them changed here and there.
func TestP6LongOnesChanged(t *testing.T) {
	r := rand.New(rand.NewSource(43))
	for _, kinds := range []int{1, 2, 8, 9, 256} {
		text := drawText(r, api.MaxText, kinds)
		for _, rate := range someRates() {
			image := mustBuild(t, text, rate)
			for range 30 {
				changed := []byte(image)
				changed[r.Intn(len(changed))] ^= byte(1 << r.Intn(8))
				mustBeOneOrNone(t, string(changed))
				mustBeOneOrNone(t, image[:r.Intn(len(image))])
			}
		}
	}
}
