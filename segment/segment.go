// Package segment: docs that stay as they are, and how they are found by their words.
package segment

import (
	"sift/api"
	"sift/dict"
	"sift/pack"
	"sift/set"
	"sift/table"
)

// Segment has docs. It never changes: which of them are dead is kept by those who have it.
type Segment struct {
	number int
	docs   table.Table
	terms  dict.Dictionary
	having []set.Set // for each term the docs that have it
	bytes  int       // of the file of its docs
}

// Of makes a segment of texts that are in the rising order of their ids.
func Of(number int, texts []api.Text) *Segment {
	docs := table.Of(texts)
	return &Segment{
		number: number,
		docs:   docs,
		terms:  dict.Of(docs.Terms),
		having: havingOf(docs),
		bytes:  len(pack.Write(texts)),
	}
}

func havingOf(docs table.Table) []set.Set {
	having := make([]set.Set, len(docs.Terms))
	for spot, term := range docs.At {
		having[term] = having[term].With(spot.Doc)
	}
	return having
}

// About tells of the segment, of which some docs are dead.
func (s *Segment) About(dead set.Set) api.Segment {
	return api.Segment{
		Number: s.number,
		Docs:   s.Len(),
		Dead:   dead.Len(),
		Terms:  len(s.docs.Terms),
		States: s.terms.States(),
		Bytes:  s.bytes,
	}
}

// Number gives the number of the segment.
func (s *Segment) Number() int {
	return s.number
}

// File gives the file of its docs.
func (s *Segment) File() []byte {
	return pack.Write(s.docs.Texts())
}

// Len tells how many docs the segment has.
func (s *Segment) Len() int {
	return len(s.docs.Ids)
}

// Id gives the id of a doc.
func (s *Segment) Id(doc int) int {
	return s.docs.Ids[doc]
}

// Text gives a doc, with a list of words of its own.
func (s *Segment) Text(doc int) api.Text {
	return s.docs.Text(doc)
}

// All gives all docs of the segment.
func (s *Segment) All() set.Set {
	return set.First(s.Len())
}

// Ids gives the ids of some of the docs, rising.
func (s *Segment) Ids(docs set.Set) []int {
	var list []int
	for doc := range docs.Places() {
		list = append(list, s.Id(doc))
	}
	return list
}
