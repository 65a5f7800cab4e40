// Package pack: the file of some docs.
package pack

import (
	"sift/api"
	"sift/table"
	"sift/wire"
)

// mark is what the file of some docs begins with.
const mark = "S"

// Write gives the file of texts that are in the rising order of their ids.
func Write(texts []api.Text) []byte {
	t := table.Of(texts)
	var w wire.Writer
	w.Text(mark)
	w.Number(len(t.Ids))
	w.Rising(t.Ids)
	w.Number(len(t.Terms))
	for term, list := range postings(t) {
		writeTerm(&w, t.Terms[term], list)
	}
	return w.Sealed()
}

func writeTerm(w *wire.Writer, term string, list []posting) {
	w.Number(len(term))
	w.Text(term)
	w.Number(len(list))
	var docs wire.Rise
	for _, p := range list {
		w.Entry(&docs, p.doc)
		w.Number(len(p.places))
		w.Rising(p.places)
	}
}
