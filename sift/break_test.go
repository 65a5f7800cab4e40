package sift_test

import (
	"bytes"
	"slices"
	"testing"

	"sift/api"
	"sift/sift"
)

func TestP14Errors(t *testing.T) {
	x := newIndex(t, 1, 2)
	wrong := []int{-1 << 63, -1, 1001, 1<<63 - 1}
	for _, n := range wrong {
		wantBreak(t, x, n, api.ErrArg)
	}
	wantCommit(t, x, api.OK)
	wantBreak(t, x, 1000, api.OK)
	wantCommit(t, x, api.OK)
	wantBreak(t, x, 1, api.OK)
	for _, n := range wrong {
		wantBreak(t, x, n, api.ErrArg) // the one ahead of it stays
	}
	wantAdd(t, x, 1, "a", api.OK)
	wantCommit(t, x, api.ErrDown)
	wantFiles(t, x, "c2")
}

// A later Break is in the place of an earlier one, be it sooner or later.
func TestP14InItsPlace(t *testing.T) {
	x := newIndex(t, 1, 2)
	wantBreak(t, x, 1000, api.OK)
	wantBreak(t, x, 2, api.OK)
	wantCommit(t, x, api.ErrDown)
	wantFiles(t, x, "t")
	wantRecover(t, x, api.OK)
	wantFiles(t, x, "")
	wantBreak(t, x, 0, api.OK)
	wantBreak(t, x, 3, api.OK)
	wantCommit(t, x, api.OK)
	wantFiles(t, x, "c1")
}

// Steps are counted over commits, and only those of commits.
func TestP14OverCommits(t *testing.T) {
	x := newIndex(t, 1, 2)
	wantBreak(t, x, 3+4+6, api.OK)
	wantCommit(t, x, api.OK) // three steps
	wantCommit(t, x, api.OK) // and c1 is deleted
	wantAdd(t, x, 1, "a", api.OK)
	wantOpen(t, x, 0)
	wantFlush(t, x, false)
	wantCommit(t, x, api.OK) // and s0 is written and synced
	wantFiles(t, x, "c3 s0")
	wantAdd(t, x, 2, "a", api.OK)
	wantMerge(t, x, "2:2-0")
	wantLen(t, x, 2)
	wantIds(t, x, 0, "a", 1)
	wantCommit(t, x, api.ErrDown)
	wantFiles(t, x, "c3 s0")
}

// As many steps as Break may be told, and no more.
func TestP14MostSteps(t *testing.T) {
	x := newIndex(t, 1, 2)
	wantBreak(t, x, 1000, api.OK)
	wantCommit(t, x, api.OK)
	for range 249 {
		wantCommit(t, x, api.OK) // four steps each
	}
	wantFiles(t, x, "c250")
	wantCommit(t, x, api.ErrDown) // one step is done: t is written, and gone
	wantFiles(t, x, "c250")
	wantRecover(t, x, api.OK)
	wantCommit(t, x, api.OK)
	wantFiles(t, x, "c251")
}

// Behind going down none is left; nor is one that an index was told while it was down.
func TestP14NoneLeft(t *testing.T) {
	x := newIndex(t, 1, 2)
	wantBreak(t, x, 1, api.OK)
	wantCommit(t, x, api.ErrDown)
	wantBreak(t, x, 1, api.ErrDown)
	wantBreak(t, x, -1, api.ErrDown)
	wantRecover(t, x, api.OK)
	for range 5 {
		wantCommit(t, x, api.OK)
	}
	wantFiles(t, x, "c5")
	wantRecover(t, x, api.ErrState)
}

// What is asked of an index that is down changes nothing, so that Recover finds what it would.
func TestP14DownStays(t *testing.T) {
	x := exampleIndex(t)
	wantCommit(t, x, api.OK)
	wantAdd(t, x, 1, "owl", api.OK)
	wantBroken(t, x, 4, "c1 s0 s3 s4 t")
	names, files := filesOf(t, x)
	for range 3 {
		wantDown(t, x)
	}
	for i, name := range names {
		wantFile(t, x, name, files[i])
	}
	wantFiles(t, x, "c1 s0 s3 s4 t")
	wantRecover(t, x, api.OK)
	wantSegments(t, x, "0:2-1 3:1-1")
}

func TestP15Errors(t *testing.T) {
	x := newIndex(t, 2, 2)
	wantRecover(t, x, api.ErrState)
	wantAdd(t, x, 1, "a", api.OK)
	wantOpen(t, x, 0)
	wantCommit(t, x, api.OK)
	wantAdd(t, x, 2, "a", api.OK)
	wantRecover(t, x, api.ErrState)
	wantLen(t, x, 2)
	wantIds(t, x, 0, "a", 1)
	wantFiles(t, x, "c1 s0")
	wantBroken(t, x, 0, "c1 s0")
	wantRecover(t, x, api.OK)
	wantRecover(t, x, api.ErrState)
	wantLen(t, x, 1)
}

// Without a commit the index is as new, but for its settings.
func TestP15NoCommit(t *testing.T) {
	for n, down := range []string{"", "", "s0", "s0", "s0 s1", "s0 s1", "s0 s1 t"} {
		x := newIndex(t, 3, 3)
		addSegments(t, x, 0, 2, 1)
		wantOpen(t, x, 0)
		wantBroken(t, x, n, down)
		wantRecover(t, x, api.OK)
		wantFiles(t, x, "")
		wantLen(t, x, 0)
		wantSegments(t, x, "")
		for reader := range 4 {
			wantClose(t, x, reader, api.ErrReader)
		}
		wantDelete(t, x, 0, api.ErrNone)
		wantOpen(t, x, 0)
		wantIds(t, x, 0, "a|!a")
		addSegments(t, x, 0, 1, 1)
		wantStart(t, x, false, api.OK)
		wantAdd(t, x, 5, "b", api.OK)
		wantAdd(t, x, 6, "b", api.OK)
		wantSegments(t, x, "0:1-0 1:1-0")
		wantAdd(t, x, 7, "b", api.OK)
		wantSegments(t, x, "0:1-0 1:1-0 2:3-0")
		wantCommit(t, x, api.OK)
		wantFiles(t, x, "c1 s0 s1 s2")
	}
}

// All that was open or under way is gone: readers, a merge, gathered texts; and what was
// done since the last commit, though it was flushed, merged or deleted.
func TestP15Lost(t *testing.T) {
	x := newIndex(t, 2, 2)
	addSegments(t, x, 0, 1, 1)
	wantCommit(t, x, api.OK)
	wantOpen(t, x, 0)
	wantOpen(t, x, 1)
	wantMerge(t, x, "2:2-0")
	wantDelete(t, x, 1, api.OK)
	addSegments(t, x, 4, 1, 1)
	wantStart(t, x, true, api.OK)
	wantAdd(t, x, 0, "gathered", api.OK)
	wantBroken(t, x, 0, "c1 s0 s1")
	wantRecover(t, x, api.OK)
	wantSegments(t, x, "0:1-0 1:1-0")
	wantLen(t, x, 2)
	wantFinish(t, x, false)
	wantAbandon(t, x, false)
	wantFlush(t, x, false)
	for reader := range 4 {
		wantClose(t, x, reader, api.ErrReader)
		wantNoSearch(t, x, reader, "a", 1, api.ErrReader)
	}
	wantOpen(t, x, 0)
	wantIds(t, x, 0, "a", 0, 1)
	wantIds(t, x, 0, "gathered")
	wantMerge(t, x, "2:2-0")
	wantAdd(t, x, 1, "b", api.OK)
	wantSegments(t, x, "2:2-1")
	wantCommit(t, x, api.OK)
	wantFiles(t, x, "c2 s2 s3")
}

// A merge that was under way at the commit is not behind it; what was dead is.
func TestP15MergeUnderWay(t *testing.T) {
	x := newIndex(t, 2, 2)
	addSegments(t, x, 0, 2, 2)
	wantDelete(t, x, 0, api.OK)
	wantStart(t, x, true, api.OK)
	wantDelete(t, x, 3, api.OK)
	wantCommit(t, x, api.OK)
	wantDelete(t, x, 2, api.OK)
	wantBroken(t, x, 2, "c1 s0 s1 t")
	wantRecover(t, x, api.OK)
	wantSegments(t, x, "0:2-1 1:2-1")
	wantFinish(t, x, false)
	wantMerge(t, x, "2:2-0")
	wantLast(t, x, 1, 2, api.Doc{Id: 1, Body: "a"}, api.Doc{Id: 2, Body: "a"})
}

// The words of the docs come back with their places, and all that is told of segments.
func TestP15Words(t *testing.T) {
	x := newIndex(t, 4, 2)
	for id, body := range []string{"b a b", "", "abcdefghij c, C", "Tap taps top tops", "a b", "?"} {
		wantAdd(t, x, id*1000, body, api.OK)
	}
	wantDelete(t, x, 4000, api.OK)
	wantCommit(t, x, api.OK)
	before, _ := x.Segments()
	names, files := filesOf(t, x)
	wantBroken(t, x, 0, "c1 s0 s1")
	wantRecover(t, x, api.OK)
	if after, err := x.Segments(); err != api.OK || !slices.Equal(after, before) {
		t.Errorf("Segments() = %+v, %d, want %+v", after, err, before)
	}
	for i, name := range names {
		wantFile(t, x, name, files[i])
	}
	wantOpen(t, x, 0)
	wantIds(t, x, 0, `"b a b"`, 0)
	wantIds(t, x, 0, `"abcdefgh c c"`, 2000)
	wantIds(t, x, 0, "ta*", 3000)
	wantIds(t, x, 0, "!a*&!b&!t*", 1000, 5000)
}

// It can go down again and again, and come up each time.
func TestP15Again(t *testing.T) {
	x := newIndex(t, 1, 2)
	for id := range 8 {
		wantAdd(t, x, id, "a", api.OK)
		wantBreak(t, x, 5, api.OK) // the segment, and the commit
		wantCommit(t, x, map[bool]api.Errno{true: api.OK, false: api.ErrDown}[id == 0])
		if id == 0 {
			wantCommit(t, x, api.ErrDown)
		}
		wantRecover(t, x, api.OK)
		wantLen(t, x, id+1)
		wantAdd(t, x, 50, "lost", api.OK)
		wantBreak(t, x, 4, api.OK)
		wantCommit(t, x, api.ErrDown)
		wantRecover(t, x, api.OK)
		wantLen(t, x, id+1)
	}
	wantSegments(t, x, "0:1-0 1:1-0 2:1-0 3:1-0 4:1-0 5:1-0 6:1-0 7:1-0")
	wantFiles(t, x, "c8 s0 s1 s2 s3 s4 s5 s6 s7")
}

func TestP16NoSuchFile(t *testing.T) {
	x := exampleIndex(t)
	wrong := []string{"", "c", "s", "t", "c0", "c01", "c2", "C1", " c1", "c1 ", "c1\x00", "s1", "s4", "s00", "s-0", "q", "\xff", "../c1"}
	wantNone := func(names ...string) {
		t.Helper()
		for _, name := range names {
			if file, err := x.File(name); file != nil || err != api.ErrNone {
				t.Errorf("File(%q) = %v, %d, want nil, ErrNone", name, file, err)
			}
		}
	}
	wantNone("c1", "s0", "s3")
	wantNone(wrong...)
	wantCommit(t, x, api.OK)
	wantNone(wrong...)
	wantBroken(t, x, 0, "c1 s0 s3")
	wantNone(wrong...)
	wantRecover(t, x, api.OK)
	wantNone(wrong...)
}

// Whoever writes all over what comes out, the spare room too, changes nothing.
func TestP2FilesOut(t *testing.T) {
	x := exampleIndex(t)
	wantCommit(t, x, api.OK)
	kept, _ := filesOf(t, x)
	for range 2 {
		names, files := filesOf(t, x)
		first, _ := x.File("c1")
		want := bytes.Clone(first)
		for _, file := range files {
			clear(file[:cap(file)])
		}
		clear(names[:cap(names)])
		if !bytes.Equal(first, want) {
			t.Errorf("an earlier answer became %v", first)
		}
		wantFiles(t, x, "c1 s0 s3")
		wantFile(t, x, "c1", sealed('C', 1, 4, 2, 0, 2, 0b10, 3, 1, 0b1))
		wantFile(t, x, "s3", fileOf([]api.Doc{{Id: 9, Body: "hen"}}))
		wantBroken(t, x, 0, "c1 s0 s3")
		wantRecover(t, x, api.OK)
		wantSegments(t, x, "0:2-1 3:1-1")
	}
	if !slices.Equal(kept, []string{"c1", "s0", "s3"}) {
		t.Errorf("an earlier answer became %q", kept)
	}
}

// An index that was never broken and one that was answer alike; neither changes the other.
func TestP2BrokenAlone(t *testing.T) {
	x, y := stepsIndex(t), stepsIndex(t)
	wantBroken(t, x, 7, "c1 c2 s0 s1 s2 s3")
	wantFiles(t, y, "c1 s0 s1")
	wantIds(t, y, 0, "a", 1, 7)
	wantCommit(t, y, api.OK)
	wantRecover(t, x, api.OK)
	for _, z := range []*sift.Index{x, y} {
		wantFiles(t, z, "c2 s2 s3")
		wantSegments(t, z, "2:2-1 3:1-0")
	}
}
