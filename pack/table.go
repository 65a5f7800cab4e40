// Package pack: the file of some docs.
package pack

import (
	"slices"

	"sift/api"
)

// spot is a place in a doc; the doc is named by its own place among the docs.
type spot struct {
	doc, place int
}

// table is what the file of some docs tells: it is made of texts or of a file, and
// gives the other.
type table struct {
	ids   []int        // rising
	terms []string     // in the order
	at    map[spot]int // the place among the terms of the word that stands there
}

// posting is a doc with the places at which one term stands in it.
type posting struct {
	doc    int
	places []int
}

// tableOf makes the table of texts that are in the rising order of their ids.
func tableOf(texts []api.Text) table {
	t := table{at: make(map[spot]int)}
	for _, text := range texts {
		t.ids = append(t.ids, text.Id)
		t.terms = append(t.terms, text.Words...)
	}
	slices.Sort(t.terms)
	t.terms = slices.Compact(t.terms)
	for doc, text := range texts {
		for place, word := range text.Words {
			t.at[spot{doc, place}], _ = slices.BinarySearch(t.terms, word)
		}
	}
	return t
}

// texts gives the texts of a table. Each has a list of words of its own.
func (t table) texts() []api.Text {
	list := make([]api.Text, len(t.ids))
	for doc, id := range t.ids {
		list[doc].Id = id
		for _, term := range t.row(doc) {
			list[doc].Words = append(list[doc].Words, t.terms[term])
		}
	}
	return list
}

// postings gives for each term the docs that have it.
func (t table) postings() [][]posting {
	lists := make([][]posting, len(t.terms))
	for doc := range t.ids {
		for place, term := range t.row(doc) {
			lists[term] = withSpot(lists[term], spot{doc, place})
		}
	}
	return lists
}

// row gives the terms of a doc, place by place, up to the first place without one.
func (t table) row(doc int) []int {
	var list []int
	for {
		term, found := t.at[spot{doc, len(list)}]
		if !found {
			return list
		}
		list = append(list, term)
	}
}

// withSpot puts a spot to those of a term, of which none is behind it.
func withSpot(list []posting, s spot) []posting {
	last := len(list) - 1
	if last < 0 || list[last].doc != s.doc {
		return append(list, posting{s.doc, []int{s.place}})
	}
	list[last].places = append(list[last].places, s.place)
	return list
}
