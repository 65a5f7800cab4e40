package pack

import "sift/table"

// posting is a doc with the places at which one term stands in it.
type posting struct {
	doc    int
	places []int
}

// postings gives for each term the docs that have it.
func postings(t table.Table) [][]posting {
	lists := make([][]posting, len(t.Terms))
	for doc := range t.Ids {
		for place, term := range t.Row(doc) {
			lists[term] = withSpot(lists[term], table.Spot{Doc: doc, Place: place})
		}
	}
	return lists
}

// withSpot puts a spot to those of a term, of which none is behind it.
func withSpot(list []posting, s table.Spot) []posting {
	last := len(list) - 1
	if last < 0 || list[last].doc != s.Doc {
		return append(list, posting{s.Doc, []int{s.Place}})
	}
	list[last].places = append(list[last].places, s.Place)
	return list
}
