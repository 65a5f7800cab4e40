package sift

import "sift/commit"

// draft is the name of a commit's file till the commit is done.
const draft = "t"

// fuse tells when the index goes down.
type fuse struct {
	lit  bool
	left int // so many steps are still done
}

// spend takes one step off, and tells whether it may be done; if not, the index goes down in
// its place.
func (f *fuse) spend() bool {
	if !f.lit {
		return true
	}
	f.left--
	return f.left >= 0
}

// steps gives the steps of a commit, none of which is done yet. What is to be deleted is
// known ahead: each file that the steps make is one that stays.
func (x *Index) steps() []func() {
	told := x.told()
	var list []func()
	for _, p := range x.parts {
		name := commit.SegmentName(p.segment.Number())
		if !x.files.Has(name) {
			list = append(list,
				func() { x.files.Write(name, p.segment.File()) },
				func() { x.files.Sync(name) },
			)
		}
	}
	list = append(list,
		func() { x.files.Write(draft, told.File()) },
		func() { x.files.Sync(draft) },
		func() { x.conclude(told.Number) },
	)
	for _, name := range x.files.Others(told.Names()) {
		list = append(list, func() { x.files.Delete(name) })
	}
	return list
}

// told gives what the next commit tells.
func (x *Index) told() commit.Commit {
	c := commit.Commit{Number: x.last + 1, Next: x.next}
	for _, p := range x.parts {
		c.Segments = append(c.Segments, commit.Segment{
			Number: p.segment.Number(),
			Docs:   p.segment.Len(),
			Dead:   p.dead,
		})
	}
	return c
}

// conclude does the step with which a commit is done.
func (x *Index) conclude(number int) {
	x.files.Rename(draft, commit.Name(number))
	x.last = number
}

// goDown loses all but the settings, the synced files, and which commit was the last one.
func (x *Index) goDown() {
	x.files.Lose()
	*x = Index{settings: x.settings, files: x.files, last: x.last, down: true}
}
