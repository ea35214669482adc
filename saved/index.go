package saved

import (
	"seeker/api"
	"seeker/bitrow"
	"seeker/index"
)

// Index reads an image; false, if it is none.
//
// It takes just the two transforms and the rate, makes the index of them, and holds its image against the one given:
// all that an image says again (sizes, kinds, bits beyond the last row, places that are kept) is so right to the byte.
func Index(image string) (*index.Index, bool) {
	bodies, ok := split(image)
	if !ok {
		return nil, false
	}
	size, rate, ok := readMeasures(bodies[measures])
	if !ok {
		return nil, false
	}
	ahead, ok := readSide(bodies[textSide], size)
	if !ok {
		return nil, false
	}
	back, ok := readSide(bodies[backSide], size)
	if !ok {
		return nil, false
	}
	x, ok := index.Join(ahead, back, rate)
	if !ok || Image(x) != image {
		return nil, false
	}
	return x, true
}

func split(image string) ([partCount]string, bool) {
	var bodies [partCount]string
	r := reader{rest: image}
	for part := range bodies {
		if r.byte() != part {
			return bodies, false
		}
		bodies[part] = r.take(r.number())
	}
	return bodies, !r.short
}

// readMeasures refuses what Build would refuse: no image is of such a text or rate.
func readMeasures(body string) (size, rate int, ok bool) {
	r := reader{rest: body}
	size, rate = r.number(), r.byte()
	return size, rate, !r.short && size <= api.MaxText && rate >= 1 && rate <= api.MaxRate
}

func readSide(body string, size int) (index.Transformed, bool) {
	r := reader{rest: body}
	t := index.Transformed{End: r.number()}
	switch r.byte() {
	case fewKind:
		t.Bytes = readFew(&r, size)
	case manyKind:
		t.Bytes = r.take(size)
	default:
		return t, false
	}
	return t, !r.short
}

func readFew(r *reader, size int) string {
	bytes := make([]byte, size)
	letters := r.take(r.byte())
	for k := range len(letters) {
		packed := r.take(bitrow.PackedSize(size))
		if r.short {
			return ""
		}
		bits := bitrow.Unpack(packed, size)
		for i := range bytes {
			if bits.Bit(i) {
				bytes[i] = letters[k]
			}
		}
	}
	return string(bytes)
}

// reader takes bytes off the front. If they do not suffice, it is short from then on, and all it tells is empty or 0.
type reader struct {
	rest  string
	short bool
}

func (r *reader) take(count int) string {
	if r.short || count > len(r.rest) {
		r.short = true
		return ""
	}
	taken := r.rest[:count]
	r.rest = r.rest[count:]
	return taken
}

func (r *reader) byte() int {
	taken := r.take(1)
	if r.short {
		return 0
	}
	return int(taken[0])
}

func (r *reader) number() int {
	taken := r.take(2)
	if r.short {
		return 0
	}
	return int(taken[0])<<8 | int(taken[1])
}
