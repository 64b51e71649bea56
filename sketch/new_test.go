package sketch_test

import (
	"math"
	"slices"
	"testing"

	"telemeter/sketch"
)

// There is none but of 1 to 8 rows, 1 to 1024 wide, whatever the seed.
func TestNew(t *testing.T) {
	right := []int{1, 2, 7, 8}
	wide := []int{1, 2, 8, 9, 1000, 1023, 1024}
	wrong := []int{math.MinInt, math.MinInt + 1, math.MinInt32, -1024, -8, -2, -1, 0, 1025, 1026, 2048, 1 << 31, 1 << 32, 1<<32 + 1, 1 << 62, math.MaxInt - 1, math.MaxInt}
	for _, rows := range append([]int{9, 10, 16, 256, 257, 1024}, append(right, wrong...)...) {
		for _, width := range append(wide, wrong...) {
			for _, seed := range []uint64{0, 1, 1 << 63, greatest} {
				is := sketch.New(rows, width, seed) != nil
				if want := slices.Contains(right, rows) && slices.Contains(wide, width); is != want {
					t.Errorf("New(%d, %d, %#x): there is one: %v", rows, width, seed, is)
				}
			}
		}
	}
}

// Each number of rows, and each width, is one or is not.
func TestNewEach(t *testing.T) {
	for rows := -20; rows <= 20; rows++ {
		if is := sketch.New(rows, 3, 0) != nil; is != (rows >= 1 && rows <= 8) {
			t.Errorf("New(%d, 3, 0): there is one: %v", rows, is)
		}
	}
	for width := -20; width <= 2100; width++ {
		if is := sketch.New(3, width, 0) != nil; is != (width >= 1 && width <= 1024) {
			t.Errorf("New(3, %d, 0): there is one: %v", width, is)
		}
	}
}

func TestNewIsEmpty(t *testing.T) {
	for _, f := range someShapes() {
		wantAsWorded(t, f.made(), wordsOf(f))
	}
}

// Sketches know nothing of one another, those that were made alike too.
func TestSketchesAreApart(t *testing.T) {
	for _, f := range someShapes() {
		one, other := f.made(), f.made()
		one.Add("a", 3)
		wantAsWorded(t, other, wordsOf(f))
		w := wordsOf(f)
		other.Add("b", 5)
		w.add("b", 5)
		wantAsWorded(t, other, w)
		wantCount(t, one, "a", 3)
		wantTotal(t, one, 3)
	}
}
