package samples_test

import (
	"slices"
	"testing"

	"hydrocascade/api"
	"hydrocascade/samples"
)

func TestSequenceIsTheSameInEveryRunAndInItsRange(t *testing.T) {
	one, other := &samples.Sequence{}, &samples.Sequence{}
	seen := map[int]bool{}
	for range 1000 {
		number, again := one.Below(7), other.Below(7)
		if number != again || number < 0 || number >= 7 {
			t.Fatalf("%d and %d, both below 7", number, again)
		}
		seen[number] = true
	}
	if len(seen) != 7 {
		t.Errorf("of 7 numbers it hands out %d", len(seen))
	}
}

func TestThroughPairsTheNumbers(t *testing.T) {
	want := []api.Point{{X: 1, Y: 2}, {X: 3, Y: 4}}
	if got := samples.Through(1, 2, 3, 4); !slices.Equal(got, want) {
		t.Errorf("%v; want %v", got, want)
	}
	if got := samples.Through(); len(got) != 0 {
		t.Errorf("no numbers give %v", got)
	}
}
