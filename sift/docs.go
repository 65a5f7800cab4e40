package sift

import (
	"cmp"
	"slices"

	"sift/api"
)

// byId gives the docs in the order of their ids, in a list of their own: the caller's
// stays as it is.
func byId(docs []api.Doc) []api.Doc {
	sorted := slices.Clone(docs)
	slices.SortFunc(sorted, func(a, b api.Doc) int { return cmp.Compare(a.Id, b.Id) })
	return sorted
}

func idMayBe(id int) bool {
	return id >= 0 && id <= api.MaxId
}

// idsMayBe tells whether the ids of sorted docs are ids, and different ones.
func idsMayBe(sorted []api.Doc) bool {
	for i, doc := range sorted {
		if !idMayBe(doc.Id) || i > 0 && sorted[i-1].Id == doc.Id {
			return false
		}
	}
	return true
}

func textsOf(docs []api.Doc) ([]api.Text, api.Errno) {
	var texts []api.Text
	for _, doc := range docs {
		list, err := Words(doc.Body)
		if err != api.OK {
			return nil, err
		}
		texts = append(texts, api.Text{Id: doc.Id, Words: list})
	}
	return texts, api.OK
}
