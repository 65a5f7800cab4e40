package sift

import (
	"cmp"
	"maps"
	"slices"

	"sift/api"
	"sift/set"
)

// merge is a merge under way.
type merge struct {
	stakes []stake
}

// stake is a part that a merge takes away, and which of its docs it takes over: those that
// were not dead when it began.
type stake struct {
	part *part
	docs set.Set
}

// moved is a doc that a merge takes over.
type moved struct {
	text api.Text
	dead bool
}

// classOf gives the class of a segment of so many docs.
func classOf(docs, factor int) int {
	class := 0
	for ; docs >= factor; docs /= factor {
		class++
	}
	return class
}

// due gives the parts of the next merge, or none if no class has enough of them.
func (x *Index) due() []*part {
	factor := x.settings.Factor
	classes := make(map[int][]*part)
	for _, p := range x.parts {
		class := classOf(p.segment.Len(), factor)
		classes[class] = append(classes[class], p)
	}
	for _, class := range slices.Sorted(maps.Keys(classes)) {
		if len(classes[class]) >= factor {
			return classes[class][:factor]
		}
	}
	return nil
}

// mergeOf begins a merge. Of what dies later in its parts it learns when it is finished.
func mergeOf(parts []*part) *merge {
	m := &merge{}
	for _, p := range parts {
		m.stakes = append(m.stakes, stake{p, p.alive()})
	}
	return m
}

func (m *merge) takes(p *part) bool {
	return slices.ContainsFunc(m.stakes, func(s stake) bool { return s.part == p })
}

// docs gives the docs that the merge takes over, in the rising order of their ids.
func (m *merge) docs() []moved {
	var list []moved
	for _, s := range m.stakes {
		for doc := range s.docs.Places() {
			list = append(list, moved{s.part.segment.Text(doc), s.part.dead.Has(doc)})
		}
	}
	slices.SortFunc(list, func(a, b moved) int { return cmp.Compare(a.text.Id, b.text.Id) })
	return list
}

// put lays the docs of a merge into a segment, in the place of the parts that it takes away.
func (x *Index) put(m *merge) {
	x.parts = slices.DeleteFunc(x.parts, m.takes)
	var texts []api.Text
	var dead set.Set
	for doc, d := range m.docs() {
		texts = append(texts, d.text)
		if d.dead {
			dead = dead.With(doc)
		}
	}
	if len(texts) > 0 {
		x.lay(texts, dead)
	}
}
