package saved

import (
	"math/rand"
	"strings"
	"testing"

	"seeker/api"
	"seeker/index"
)

func drawText(r *rand.Rand, size, kinds int) string {
	b := make([]byte, size)
	for i := range b {
		b[i] = byte(r.Intn(kinds) * 255 / max(1, kinds-1))
	}
	return string(b)
}

func TestThereAndBack(t *testing.T) {
	r := rand.New(rand.NewSource(29))
	for _, kinds := range []int{1, 2, 8, 9, 255, 256} {
		for _, size := range []int{0, 1, 2, 8, 63, 64, 500, api.MaxText} {
			text, rate := drawText(r, size, kinds), 1+r.Intn(api.MaxRate)
			image := Image(index.Of(text, rate))
			x, ok := Index(image)
			if !ok || x.Text() != text || x.Rate != rate {
				t.Fatalf("%d bytes of %d kinds, rate %d: %v", size, kinds, rate, ok)
			}
		}
	}
}

// splitWell gives the bodies of an image that is one.
func splitWell(t *testing.T, image string) [partCount]string {
	t.Helper()
	bodies, ok := split(image)
	if !ok {
		t.Fatalf("%.60q has not all parts", image)
	}
	return bodies
}

func joinParts(bodies [partCount]string) string {
	var image []byte
	for part, body := range bodies {
		image = append(image, byte(part))
		image = appendNumber(image, len(body))
		image = append(image, body...)
	}
	return string(image)
}

func TestKindsAndSizes(t *testing.T) {
	few := splitWell(t, Image(index.Of("abracadabra", 4)))
	if side := few[textSide]; side[:4] != "\x00\x03\x00\x05" || side[4:9] != "abcdr" || len(side) != 9+5*2 {
		t.Errorf("few: %q", side)
	}
	if few[measures] != "\x00\x0b\x04" {
		t.Errorf("measures: %q", few[measures])
	}
	if kept := few[keptPlaces]; kept != "\x48\x01"+"\x00\x00"+"\x00\x08"+"\x00\x04" { // rows 3, 6 and 8
		t.Errorf("kept: %q", kept)
	}
	many := splitWell(t, Image(index.Of("the quick brown fox", 4)))
	if side := many[textSide]; side[2] != manyKind || len(side) != 3+19 {
		t.Errorf("many: %q", side)
	}
}

// TestOtherForms: bytes that tell the same text in a form that Image does not write are no image.
func TestOtherForms(t *testing.T) {
	for name, change := range map[string]func(b *[partCount]string){
		"the other kind":        func(b *[partCount]string) { b[textSide] = "\x00\x01\x01ba" },
		"a letter that is none": func(b *[partCount]string) { b[textSide] = "\x00\x01\x00\x03abc\x02\x01\x00" },
		"letters not rising":    func(b *[partCount]string) { b[textSide] = "\x00\x01\x00\x02ba\x01\x02" },
		"a bit twice":           func(b *[partCount]string) { b[textSide] = "\x00\x01\x00\x02ab\x03\x01" },
		"a bit beyond":          func(b *[partCount]string) { b[textSide] = "\x00\x01\x00\x02ab\x82\x01" },
		"bytes behind a side":   func(b *[partCount]string) { b[backSide] += "\x00" },
		"bytes behind measures": func(b *[partCount]string) { b[measures] += "\x00" },
		"no kept places":        func(b *[partCount]string) { b[keptPlaces] = "" },
		"another kept place":    func(b *[partCount]string) { b[keptPlaces] = b[keptPlaces][:len(b[keptPlaces])-1] + "\x01" },
		"too many kept":         func(b *[partCount]string) { b[keptPlaces] += "\x00\x00" },
		"sides exchanged":       func(b *[partCount]string) { b[textSide], b[backSide] = b[backSide], b[textSide] },
		"no kind":               func(b *[partCount]string) { b[textSide] = "\x00\x01\x02ba" },
		"rate 0":                func(b *[partCount]string) { b[measures] = "\x00\x02\x00" },
		"rate 65":               func(b *[partCount]string) { b[measures] = "\x00\x02\x41" },
		"another size":          func(b *[partCount]string) { b[measures] = "\x00\x03\x03" },
		"too great a size":      func(b *[partCount]string) { b[measures] = "\xff\xff\x03" },
		"short measures":        func(b *[partCount]string) { b[measures] = "\x00\x02" },
		"a short side":          func(b *[partCount]string) { b[textSide] = "\x00" },
		"an empty side":         func(b *[partCount]string) { b[textSide] = "" },
	} {
		image := Image(index.Of("ab", 3))
		bodies := splitWell(t, image)
		if joinParts(bodies) != image {
			t.Fatal("the parts do not make the image")
		}
		change(&bodies)
		if x, ok := Index(joinParts(bodies)); ok {
			t.Errorf("%s: taken for an image of %q", name, x.Text())
		}
	}
}

// TestTooLongOrWrongRate: what Build refuses has no image, though its bytes could be written.
func TestTooLongOrWrongRate(t *testing.T) {
	for _, c := range []struct {
		text string
		rate int
	}{
		{strings.Repeat("a", api.MaxText+1), 1}, {strings.Repeat("abcdefghi", 300), 64}, {"a", api.MaxRate + 1}, {"", 255},
	} {
		if _, ok := Index(Image(index.Of(c.text, c.rate))); ok {
			t.Errorf("%d bytes, rate %d: taken for an image", len(c.text), c.rate)
		}
	}
}

// TestAnyBytes: whatever is changed, either it is no image or it is that of what it tells.
func TestAnyBytes(t *testing.T) {
	r := rand.New(rand.NewSource(31))
	for _, text := range []string{"", "a", "abracadabra", "the quick brown fox", drawText(r, 100, 256)} {
		image := Image(index.Of(text, 3))
		for range 3000 {
			b := []byte(image)
			for range 1 + r.Intn(3) {
				b[r.Intn(len(b))] = byte(r.Intn(256))
			}
			changed := string(b[:len(b)-r.Intn(2)*r.Intn(len(b))])
			if x, ok := Index(changed); ok && Image(index.Of(x.Text(), x.Rate)) != changed {
				t.Fatalf("%q is taken for the image of %q, %d", changed, x.Text(), x.Rate)
			}
		}
	}
}
