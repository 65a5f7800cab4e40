package segment

import (
	"sift/set"
	"sift/table"
)

// Word gives the docs that have a word.
func (s *Segment) Word(word string) set.Set {
	term, found := s.terms.Find(word)
	if !found {
		return 0
	}
	return s.having[term]
}

// Begin gives the docs that have a word that begins with a text.
func (s *Segment) Begin(text string) set.Set {
	var docs set.Set
	first, count := s.terms.Begin(text)
	for _, having := range s.having[first : first+count] {
		docs |= having
	}
	return docs
}

// Phrase gives the docs in which just these words follow one another.
func (s *Segment) Phrase(words []string) set.Set {
	var terms []int
	maybe := s.All()
	for _, word := range words {
		term, found := s.terms.Find(word)
		if !found {
			return 0
		}
		terms = append(terms, term)
		maybe &= s.having[term]
	}
	var docs set.Set
	for doc := range maybe.Places() {
		if s.follow(doc, terms) {
			docs = docs.With(doc)
		}
	}
	return docs
}

// follow tells whether terms follow one another somewhere in a doc.
func (s *Segment) follow(doc int, terms []int) bool {
	for place := range s.docs.Row(doc) {
		if s.standAt(table.Spot{Doc: doc, Place: place}, terms) {
			return true
		}
	}
	return false
}

func (s *Segment) standAt(spot table.Spot, terms []int) bool {
	for _, term := range terms {
		found, there := s.docs.At[spot]
		if !there || found != term {
			return false
		}
		spot.Place++
	}
	return true
}
