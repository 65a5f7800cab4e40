// Package table: which word stands where in some docs.
package table

import (
	"slices"

	"sift/api"
)

// Spot is a place in a doc; the doc is named by its own place among the docs.
type Spot struct {
	Doc, Place int
}

// Table is what texts with their ids come to: it is made of texts, and gives them back.
type Table struct {
	Ids   []int        // rising
	Terms []string     // in the order
	At    map[Spot]int // the place among the terms of the word that stands there
}

// Of makes the table of texts that are in the rising order of their ids.
func Of(texts []api.Text) Table {
	t := Table{At: make(map[Spot]int)}
	for _, text := range texts {
		t.Ids = append(t.Ids, text.Id)
		t.Terms = append(t.Terms, text.Words...)
	}
	slices.Sort(t.Terms)
	t.Terms = slices.Compact(t.Terms)
	for doc, text := range texts {
		for place, word := range text.Words {
			t.At[Spot{doc, place}], _ = slices.BinarySearch(t.Terms, word)
		}
	}
	return t
}

// Texts gives the texts of a table. Each has a list of words of its own.
func (t Table) Texts() []api.Text {
	list := make([]api.Text, len(t.Ids))
	for doc := range list {
		list[doc] = t.Text(doc)
	}
	return list
}

// Text gives the text of one doc.
func (t Table) Text(doc int) api.Text {
	text := api.Text{Id: t.Ids[doc]}
	for _, term := range t.Row(doc) {
		text.Words = append(text.Words, t.Terms[term])
	}
	return text
}

// Row gives the terms of a doc, place by place, up to the first place without one.
func (t Table) Row(doc int) []int {
	var list []int
	for {
		term, found := t.At[Spot{doc, len(list)}]
		if !found {
			return list
		}
		list = append(list, term)
	}
}
