// Package samples makes inputs for the tests of several layers; no layer uses it.
package samples

import "hydrocascade/api"

// Sequence hands out the same numbers in every run, so that a test that fails once fails always; its zero value is ready.
type Sequence struct{ state uint64 }

// Below returns the next number, from 0 to n - 1; n is at least 1.
func (s *Sequence) Below(n int) int {
	s.state = s.state*6364136223846793005 + 1442695040888963407
	return int((s.state >> 33) % uint64(n))
}

// Through returns the points whose numbers are X, Y, X, Y and so on.
func Through(numbers ...int) []api.Point {
	points := make([]api.Point, 0, len(numbers)/2)
	for i := 1; i < len(numbers); i += 2 {
		points = append(points, api.Point{X: numbers[i-1], Y: numbers[i]})
	}
	return points
}
