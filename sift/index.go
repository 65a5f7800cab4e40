package sift

import (
	"cmp"
	"slices"

	"sift/api"
	"sift/disk"
	"sift/segment"
	"sift/set"
)

// Index keeps texts.
type Index struct {
	settings api.Config
	files    *disk.Disk
	last     int          // the number of the last commit, 0 if there is none
	fuse     fuse         // what Break set
	down     bool         // nothing below is there then
	gathered []api.Text   // in the rising order of their ids
	parts    []*part      // by the numbers of their segments
	homes    map[int]home // of the texts that are in segments, by their ids
	next     int          // the number of the next segment
	merge    *merge       // the one under way, if any
	readers  [api.MaxReaders]*view
}

// part is a segment of an index, with those of its docs that are dead.
type part struct {
	segment *segment.Segment
	dead    set.Set
}

func (p *part) alive() set.Set {
	return p.segment.All() &^ p.dead
}

// home is where a text is.
type home struct {
	part *part
	doc  int // its place there
}

func settingsMayBe(c api.Config) bool {
	return c.Buffer >= 1 && c.Buffer <= api.MaxBuffer && c.Factor >= 2 && c.Factor <= api.MaxFactor
}

func emptyIndex(c api.Config) *Index {
	return indexOver(c, disk.New())
}

// indexOver gives an index that has files, but nothing of what they tell.
func indexOver(c api.Config, files *disk.Disk) *Index {
	return &Index{settings: c, files: files, homes: make(map[int]home)}
}

func (x *Index) size() int {
	return len(x.gathered) + len(x.homes)
}

func (x *Index) has(id int) bool {
	_, isGathered := x.gatheredAt(id)
	_, isHome := x.homes[id]
	return isGathered || isHome
}

// gatheredAt gives the place of an id among the gathered texts, and whether it has one there.
func (x *Index) gatheredAt(id int) (int, bool) {
	return slices.BinarySearchFunc(x.gathered, id, func(text api.Text, id int) int { return cmp.Compare(text.Id, id) })
}

func (x *Index) gather(text api.Text) {
	at, _ := x.gatheredAt(text.Id)
	x.gathered = slices.Insert(x.gathered, at, text)
}

// drop lets the text of an id go, if there is one.
func (x *Index) drop(id int) {
	if at, found := x.gatheredAt(id); found {
		x.gathered = slices.Delete(x.gathered, at, at+1)
	}
	if h, found := x.homes[id]; found {
		h.part.dead = h.part.dead.With(h.doc)
		delete(x.homes, id)
	}
}

// flush makes a segment of the gathered texts, and tells whether there were any.
func (x *Index) flush() bool {
	if len(x.gathered) == 0 {
		return false
	}
	x.lay(x.gathered, 0)
	x.gathered = nil
	return true
}

// lay makes the newest segment, of texts in the rising order of their ids, some of which
// may be dead.
func (x *Index) lay(texts []api.Text, dead set.Set) {
	x.hold(&part{segment.Of(x.next, texts), dead})
	x.next++
}

// hold puts a part behind the others.
func (x *Index) hold(p *part) {
	x.parts = append(x.parts, p)
	for doc := range p.alive().Places() {
		x.homes[p.segment.Id(doc)] = home{p, doc}
	}
}
