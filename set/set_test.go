package set

import (
	"slices"
	"testing"
)

func TestSets(t *testing.T) {
	for _, places := range [][]int{nil, {0}, {1, 5, 59}, {0, 31, 32, 58}} {
		var s Set
		for _, place := range places {
			s = s.With(place).With(place)
		}
		if got := slices.Collect(s.Places()); !slices.Equal(got, places) || s.Len() != len(places) {
			t.Errorf("the set of %v has %v, %d of them", places, got, s.Len())
		}
		for place := range 60 {
			if s.Has(place) != slices.Contains(places, place) {
				t.Errorf("Has(%d) of the set of %v is %v", place, places, s.Has(place))
			}
		}
	}
}

func TestFirst(t *testing.T) {
	for _, count := range []int{0, 1, 8, 59, 60} {
		place := 0
		for got := range First(count).Places() {
			if got != place {
				t.Errorf("First(%d) has %d at %d", count, got, place)
			}
			place++
		}
		if place != count {
			t.Errorf("First(%d) has %d places", count, place)
		}
	}
}

// Who goes through the places may stop.
func TestPlacesStop(t *testing.T) {
	for place := range First(60).Places() {
		if place == 3 {
			return
		}
		if place > 3 {
			t.Fatal("went on behind 3")
		}
	}
}
