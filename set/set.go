// Package set: sets of docs of one segment.
package set

import (
	"iter"
	"math/bits"

	"sift/api"
)

// Set has the bit i set, if the doc at the place i of a segment is in it. So sets are
// joined, cut and held against each other by the signs for numbers, and never share memory.
type Set uint64

// This does not compile, if a segment may have more docs than a set has bits.
const _ uint = 64 - api.MaxDocs

// First gives the set of the first docs, so many of them.
func First(count int) Set {
	return 1<<count - 1
}

// With gives the set with one more doc.
func (s Set) With(place int) Set {
	return s | 1<<place
}

// Has tells whether a doc is in the set.
func (s Set) Has(place int) bool {
	return s>>place&1 == 1
}

// Len tells how many docs are in the set.
func (s Set) Len() int {
	return bits.OnesCount64(uint64(s))
}

// Places gives the places of the docs of the set, rising.
func (s Set) Places() iter.Seq[int] {
	return func(yield func(int) bool) {
		for rest := s; rest != 0; rest &= rest - 1 {
			if !yield(bits.TrailingZeros64(uint64(rest))) {
				return
			}
		}
	}
}
