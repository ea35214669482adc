// Package suffix sorts the suffixes of a text.
package suffix

// byteKinds counts the END, which is less than every byte, and the 256 bytes.
const byteKinds = 257

// Sort tells the places of all suffixes of a text, the empty one's too, in the order of the suffixes.
//
// The text is taken as a ring that the END closes: there is one END alone, so no two rings are compared beyond it,
// and no place needs a check for the end of the text. The beginnings by which the places are sorted get twice as
// long each time, so that a text of one byte repeated takes hardly longer than any other.
func Sort(text string) []int {
	classes := classesOfBytes(text)
	order := sortByClass(allPlaces(len(classes)), classes, byteKinds)
	classes, kinds := joinClasses(order, classes, 0)
	for width := 1; kinds < len(order); width *= 2 {
		order = sortByClass(stepBack(order, width), classes, kinds)
		classes, kinds = joinClasses(order, classes, width)
	}
	return order
}

// classesOfBytes leaves class 0 to the END, so that the empty suffix goes ahead of all others.
func classesOfBytes(text string) []int {
	classes := make([]int, len(text)+1)
	for place := range len(text) {
		classes[place] = int(text[place]) + 1
	}
	return classes
}

func allPlaces(size int) []int {
	places := make([]int, size)
	for place := range places {
		places[place] = place
	}
	return places
}

// stepBack turns the order of the places into the order, by their second halves, of the places width ahead of them.
func stepBack(order []int, width int) []int {
	places := make([]int, len(order))
	for i, place := range order {
		places[i] = (place - width + len(order)) % len(order)
	}
	return places
}

// sortByClass keeps places of one class in the order they come in: that order has their second halves sorted.
func sortByClass(places, classes []int, kinds int) []int {
	starts := make([]int, kinds+1)
	for _, class := range classes {
		starts[class+1]++
	}
	for class := range kinds {
		starts[class+1] += starts[class]
	}
	sorted := make([]int, len(places))
	for _, place := range places {
		class := classes[place]
		sorted[starts[class]] = place
		starts[class]++
	}
	return sorted
}

// joinClasses numbers anew, in their order, what the two halves of the beginnings tell apart, and says how many
// classes there are now.
func joinClasses(order, classes []int, width int) ([]int, int) {
	joined := make([]int, len(order))
	kinds := 1
	for i := 1; i < len(order); i++ {
		if !sameHalves(classes, order[i-1], order[i], width) {
			kinds++
		}
		joined[order[i]] = kinds - 1
	}
	return joined, kinds
}

func sameHalves(classes []int, a, b, width int) bool {
	size := len(classes)
	return classes[a] == classes[b] && classes[(a+width)%size] == classes[(b+width)%size]
}
