package sift

import (
	"slices"
	"sync"

	"sift/api"
	"sift/ask"
	"sift/segment"
	"sift/set"
)

// view is what a reader sees: the texts that there were at one moment.
type view struct {
	shares []share
}

// share is what a segment has of the texts of a view.
type share struct {
	segment *segment.Segment
	docs    set.Set
}

// viewOf gives the view of the texts in some parts. Of what dies there later it knows
// nothing: sets are copied. Parts without a text of the view would be kept in vain.
func viewOf(parts []*part) *view {
	v := &view{}
	for _, p := range parts {
		if docs := p.alive(); docs != 0 {
			v.shares = append(v.shares, share{p.segment, docs})
		}
	}
	return v
}

// find gives the ids of all texts of the view that fit a query, rising.
func (v *view) find(q ask.Query) []int {
	found := make([][]int, len(v.shares))
	var all sync.WaitGroup
	for i, s := range v.shares {
		all.Go(func() { found[i] = s.find(q) })
	}
	all.Wait()
	ids := slices.Concat(found...)
	slices.Sort(ids)
	return ids
}

func (s share) find(q ask.Query) []int {
	return s.segment.Ids(q.In(s.segment) & s.docs)
}

// foundOf tells of rising ids the first ones above after, at most limit of them.
func foundOf(ids []int, after, limit int) api.Found {
	first, met := slices.BinarySearch(ids, after)
	if met {
		first++
	}
	shown := ids[first:min(first+limit, len(ids))]
	return api.Found{Ids: slices.Clone(shown), Total: len(ids)}
}

// freeReader gives the least number that no open reader has, and whether there is one.
func (x *Index) freeReader() (int, bool) {
	for reader, v := range x.readers {
		if v == nil {
			return reader, true
		}
	}
	return 0, false
}

func (x *Index) isOpen(reader int) bool {
	return reader >= 0 && reader < len(x.readers) && x.readers[reader] != nil
}
