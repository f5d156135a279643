// Package samples makes inputs for the tests of several layers; no layer uses it.
package samples

import (
	"slices"

	"hydrocascade/api"
)

// Sequence hands out the same numbers in every run, so that a test that fails once fails always; its zero value is ready.
type Sequence struct{ state uint64 }

// Below returns the next number, from 0 to n - 1; n is at least 1.
func (s *Sequence) Below(n int) int {
	s.state = s.state*6364136223846793005 + 1442695040888963407
	return int((s.state >> 33) % uint64(n))
}

// Through returns the points whose numbers are X, Y, X, Y and so on.
func Through(numbers ...int) []api.Point {
	points := make([]api.Point, 0, len(numbers)/2)
	for i := 1; i < len(numbers); i += 2 {
		points = append(points, api.Point{X: numbers[i-1], Y: numbers[i]})
	}
	return points
}

// SmallCurve returns a valid curve that is short enough to look at each of its X.
func SmallCurve(numbers *Sequence) []api.Point {
	points := Through(numbers.Below(4), numbers.Below(5))
	for range numbers.Below(6) {
		end := points[len(points)-1]
		points = append(points, api.Point{X: end.X + 1 + numbers.Below(7), Y: end.Y + numbers.Below(3)*numbers.Below(9)})
	}
	return points
}

// Window returns the elements within a longer slice, with others before them and room with others behind them, and the whole slice: who changes an argument, or appends to it, is seen in the whole.
func Window[T any](elements []T, other T) (part, whole []T) {
	const around = 5
	others := slices.Repeat([]T{other}, around)
	whole = slices.Concat(others, elements, others)
	return whole[around : around+len(elements)], whole
}
