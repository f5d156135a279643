package samples_test

import (
	"slices"
	"testing"

	"hydrocascade/api"
	"hydrocascade/curve"
	"hydrocascade/samples"
)

func TestSequenceIsTheSameInEveryRunAndInItsRange(t *testing.T) {
	one, other := &samples.Sequence{}, &samples.Sequence{}
	seen := map[int]bool{}
	for range 1000 {
		number, again := one.Below(7), other.Below(7)
		if number != again || number < 0 || number >= 7 {
			t.Fatalf("%d and %d, both below 7", number, again)
		}
		seen[number] = true
	}
	if len(seen) != 7 {
		t.Errorf("of 7 numbers it hands out %d", len(seen))
	}
}

func TestThroughPairsTheNumbers(t *testing.T) {
	want := []api.Point{{X: 1, Y: 2}, {X: 3, Y: 4}}
	if got := samples.Through(1, 2, 3, 4); !slices.Equal(got, want) {
		t.Errorf("%v; want %v", got, want)
	}
	if got := samples.Through(); len(got) != 0 {
		t.Errorf("no numbers give %v", got)
	}
}

func TestSmallCurvesAreValidAndSmall(t *testing.T) {
	numbers := &samples.Sequence{}
	sizes := map[int]bool{}
	for range 1000 {
		points := samples.SmallCurve(numbers)
		if code := curve.Check(points); code != api.OK || points[len(points)-1].X > 50 {
			t.Fatalf("%v: error %d", points, code)
		}
		sizes[len(points)] = true
	}
	if len(sizes) != 6 {
		t.Errorf("the curves have %d different numbers of points", len(sizes))
	}
}

func TestWindowHasOthersAround(t *testing.T) {
	elements := []int{1, 2, 3}
	part, whole := samples.Window(elements, 9)
	if !slices.Equal(part, elements) || !slices.Equal(whole, []int{9, 9, 9, 9, 9, 1, 2, 3, 9, 9, 9, 9, 9}) {
		t.Errorf("%v in %v", part, whole)
	}
	if cap(part) <= len(part) || &part[0] != &whole[5] || &part[0] == &elements[0] {
		t.Error("the part has no room behind it, is no part of the whole, or is that which was passed")
	}
}
