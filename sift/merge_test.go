package sift_test

import (
	"slices"
	"testing"

	"sift/api"
	"sift/sift"
)

func wantStart(t *testing.T, x *sift.Index, want bool, wantErr api.Errno) {
	t.Helper()
	if started, err := x.Start(); started != want || err != wantErr {
		t.Errorf("Start() = %v, %d, want %v, %d", started, err, want, wantErr)
	}
}

func wantFinish(t *testing.T, x *sift.Index, want bool) {
	t.Helper()
	if finished, err := x.Finish(); finished != want || err != api.OK {
		t.Errorf("Finish() = %v, %d, want %v", finished, err, want)
	}
}

func wantAbandon(t *testing.T, x *sift.Index, want bool) {
	t.Helper()
	if abandoned, err := x.Abandon(); abandoned != want || err != api.OK {
		t.Errorf("Abandon() = %v, %d, want %v", abandoned, err, want)
	}
}

// wantMerge does a whole merge.
func wantMerge(t *testing.T, x *sift.Index, want string) {
	t.Helper()
	wantStart(t, x, true, api.OK)
	wantFinish(t, x, true)
	wantSegments(t, x, want)
}

// wantLast holds all that is told of the newest segment against the docs that it should have.
func wantLast(t *testing.T, x *sift.Index, terms, states int, docs ...api.Doc) {
	t.Helper()
	list, err := x.Segments()
	if err != api.OK || len(list) == 0 {
		t.Fatalf("Segments() = %v, %d", list, err)
	}
	last := list[len(list)-1]
	if last.Docs != len(docs) || last.Terms != terms || last.States != states || last.Bytes != len(fileOf(docs)) {
		t.Errorf("the newest segment is %+v, want %d docs, %d terms, %d states, %d bytes", last, len(docs), terms, states, len(fileOf(docs)))
	}
}

// addSegments adds segments of so many docs each, with ids from first on.
func addSegments(t *testing.T, x *sift.Index, first int, sizes ...int) {
	t.Helper()
	for _, size := range sizes {
		for range size {
			wantAdd(t, x, first, "a", api.OK)
			first++
		}
		x.Flush()
	}
}

func TestP11Example(t *testing.T) {
	x := newIndex(t, 2, 2)
	wantAdd(t, x, 5, "red fox", api.OK)
	wantAdd(t, x, 2, "red hen", api.OK)
	wantAdd(t, x, 9, "Fox", api.OK)
	wantOpen(t, x, 0)
	wantStart(t, x, false, api.OK)
	wantDelete(t, x, 5, api.OK)
	wantAdd(t, x, 9, "hen", api.OK)
	wantFlush(t, x, true)
	wantOpen(t, x, 1)
	wantStart(t, x, true, api.OK)
	wantDelete(t, x, 9, api.OK)
	wantFinish(t, x, true)
	wantSegments(t, x, "0:2-1 3:1-1")
	wantLast(t, x, 1, 4, api.Doc{Id: 9, Body: "hen"})
	wantStart(t, x, false, api.OK)
	wantIds(t, x, 0, "fox", 5, 9)
	wantIds(t, x, 1, "hen", 2, 9)
}

// Two segments make a merge just if their numbers of docs lie between the same two powers of Factor.
func TestP11Classes(t *testing.T) {
	classes := [][]int{
		2: {0, 0, 1, 1, 2, 2, 2, 2, 3},
		3: {0, 0, 0, 1, 1, 1, 1, 1, 1},
		4: {0, 0, 0, 0, 1, 1, 1, 1, 1},
	}
	for factor := 2; factor <= 4; factor++ {
		for one := 1; one <= 8; one++ {
			for other := 1; other <= 8; other++ {
				x := newIndex(t, 8, factor)
				addSegments(t, x, 0, one)
				addSegments(t, x, 10, slices.Repeat([]int{other}, factor-2)...)
				wantStart(t, x, false, api.OK)
				addSegments(t, x, 50, other)
				wantStart(t, x, classes[factor][one] == classes[factor][other], api.OK)
			}
		}
	}
}

// Merged till none is due, 60 segments of one doc each become as many of each class as the
// digits of 60 tell that are written to the base of Factor.
func TestP11GreatClasses(t *testing.T) {
	for _, c := range []struct {
		factor int
		want   string
	}{
		{2, "104:4-0 111:8-0 114:16-0 115:32-0"},
		{3, "78:3-0 79:3-0 86:27-0 87:27-0"},
		{4, "72:4-0 73:4-0 74:4-0 75:16-0 76:16-0 77:16-0"},
	} {
		x := newIndex(t, 1, c.factor)
		for id := range 60 {
			wantAdd(t, x, 59-id, "a", api.OK)
		}
		for started, _ := x.Start(); started; started, _ = x.Start() {
			wantFinish(t, x, true)
		}
		wantSegments(t, x, c.want)
		wantLen(t, x, 60)
		wantOpen(t, x, 0)
		wantFound(t, x, 0, "a", 57, 50, 60, 58, 59)
	}
}

func TestP11LeastFirst(t *testing.T) {
	x := newIndex(t, 4, 2)
	addSegments(t, x, 0, 4, 4, 2, 1, 2, 3, 1, 1)
	wantSegments(t, x, "0:4-0 1:4-0 2:2-0 3:1-0 4:2-0 5:3-0 6:1-0 7:1-0")
	wantMerge(t, x, "0:4-0 1:4-0 2:2-0 4:2-0 5:3-0 7:1-0 8:2-0")
	wantMerge(t, x, "0:4-0 1:4-0 5:3-0 7:1-0 8:2-0 9:4-0")
	wantMerge(t, x, "0:4-0 1:4-0 7:1-0 9:4-0 10:5-0")
	wantMerge(t, x, "7:1-0 9:4-0 10:5-0 11:8-0")
	wantMerge(t, x, "7:1-0 11:8-0 12:9-0")
	wantMerge(t, x, "7:1-0 13:17-0")
	wantStart(t, x, false, api.OK)
	wantSegments(t, x, "7:1-0 13:17-0")
}

// Dead docs count for the class of a segment, though a merge does not take them.
func TestP11DeadCount(t *testing.T) {
	x := newIndex(t, 4, 2)
	addSegments(t, x, 0, 4, 1)
	for id := range 3 {
		wantDelete(t, x, id, api.OK)
	}
	wantSegments(t, x, "0:4-3 1:1-0")
	wantStart(t, x, false, api.OK)
	addSegments(t, x, 10, 4)
	wantMerge(t, x, "1:1-0 3:5-0")
}

// Gathered texts are in no segment: no merge takes them, and none is begun for them.
func TestP11Gathered(t *testing.T) {
	x := newIndex(t, 3, 2)
	wantStart(t, x, false, api.OK)
	addSegments(t, x, 0, 1)
	wantAdd(t, x, 1, "a", api.OK)
	wantStart(t, x, false, api.OK)
	wantSegments(t, x, "0:1-0")
	addSegments(t, x, 2, 1)
	wantSegments(t, x, "0:1-0 1:2-0")
	addSegments(t, x, 3, 1)
	wantAdd(t, x, 4, "a", api.OK)
	wantMerge(t, x, "1:2-0 3:2-0")
	wantLen(t, x, 5)
	wantFlush(t, x, true)
	wantSegments(t, x, "1:2-0 3:2-0 4:1-0")
}

// One merge is under way at a time; who asks for another one does not change it.
func TestP11Busy(t *testing.T) {
	x := newIndex(t, 2, 2)
	addSegments(t, x, 0, 1, 1)
	wantStart(t, x, true, api.OK)
	wantStart(t, x, false, api.ErrBusy)
	addSegments(t, x, 2, 1, 1)
	wantStart(t, x, false, api.ErrBusy)
	wantDelete(t, x, 0, api.OK)
	wantStart(t, x, false, api.ErrBusy)
	wantSegments(t, x, "0:1-1 1:1-0 2:1-0 3:1-0")
	wantFinish(t, x, true)
	wantSegments(t, x, "2:1-0 3:1-0 4:2-1")
	wantStart(t, x, true, api.OK)
	wantStart(t, x, false, api.ErrBusy)
	wantAbandon(t, x, true)
	wantStart(t, x, true, api.OK)
	wantFinish(t, x, true)
	wantSegments(t, x, "4:2-1 5:2-0")
}

func TestP12NoneUnderWay(t *testing.T) {
	x := newIndex(t, 2, 2)
	for range 2 {
		wantFinish(t, x, false)
		wantAbandon(t, x, false)
		addSegments(t, x, 0, 1, 1)
	}
	wantSegments(t, x, "0:1-1 1:1-1 2:1-0 3:1-0")
	wantMerge(t, x, "2:1-0 3:1-0")
	wantFinish(t, x, false)
	wantAbandon(t, x, false)
	wantStart(t, x, true, api.OK)
	wantAbandon(t, x, true)
	wantAbandon(t, x, false)
	wantFinish(t, x, false)
	wantSegments(t, x, "2:1-0 3:1-0")
}

// A merged segment has its docs in the order of their ids, with all their words at their places.
func TestP12Docs(t *testing.T) {
	x := newIndex(t, 2, 4)
	docs := []api.Doc{
		{Id: 0, Body: "b a b"}, {Id: 1, Body: ""}, {Id: 7, Body: "abcdefghij c"}, {Id: 8, Body: "a"},
		{Id: 99991, Body: "a b"}, {Id: 99992, Body: "B"}, {Id: 99998, Body: "c1"}, {Id: 99999, Body: "b a"},
	}
	for _, i := range []int{7, 0, 2, 5, 6, 3, 1, 4} {
		wantAdd(t, x, docs[i].Id, docs[i].Body, api.OK)
	}
	wantSegments(t, x, "0:2-0 1:2-0 2:2-0 3:2-0")
	wantMerge(t, x, "4:8-0")
	wantLast(t, x, 5, 10, docs...)
	wantOpen(t, x, 0)
	wantIds(t, x, 0, "a", 0, 8, 99991, 99999)
	wantIds(t, x, 0, `"b a"`, 0, 99999)
	wantIds(t, x, 0, `"b a b"`, 0)
	wantIds(t, x, 0, `"abcdefgh c"`, 7)
	wantIds(t, x, 0, "c*", 7, 99998)
	wantIds(t, x, 0, "!a*&!b*&!c*", 1)
}

// What is dead when the merge begins is left behind with its words; what dies later is taken.
func TestP12DeadBeforeAndMeanwhile(t *testing.T) {
	x := newIndex(t, 3, 2)
	for id, body := range []string{"gone", "going", "stays", "goner", "went", "here"} {
		wantAdd(t, x, id, body, api.OK)
	}
	wantDelete(t, x, 0, api.OK)
	wantAdd(t, x, 3, "anew", api.OK)
	wantSegments(t, x, "0:3-1 1:3-1")
	wantStart(t, x, true, api.OK)
	wantDelete(t, x, 1, api.OK)
	wantAdd(t, x, 4, "again", api.OK)
	wantSegments(t, x, "0:3-2 1:3-2")
	wantFinish(t, x, true)
	wantSegments(t, x, "2:4-2")
	wantLast(t, x, 4, 16, api.Doc{Id: 1, Body: "going"}, api.Doc{Id: 2, Body: "stays"}, api.Doc{Id: 4, Body: "went"}, api.Doc{Id: 5, Body: "here"})
	wantLen(t, x, 4)
	wantOpen(t, x, 0)
	wantIds(t, x, 0, "!zz", 2, 3, 4, 5)
	wantIds(t, x, 0, "go*|went")
	wantIds(t, x, 0, "anew", 3)
	wantIds(t, x, 0, "again", 4)
	wantSegments(t, x, "2:4-2 3:2-0")
}

// A merge without docs takes its segments away and makes none; no number is used up.
func TestP12NoDocs(t *testing.T) {
	x := newIndex(t, 2, 2)
	addSegments(t, x, 0, 2, 2)
	wantOpen(t, x, 0)
	for id := range 4 {
		wantDelete(t, x, id, api.OK)
	}
	wantMerge(t, x, "")
	wantLen(t, x, 0)
	wantIds(t, x, 0, "a", 0, 1, 2, 3)
	wantOpen(t, x, 1)
	wantIds(t, x, 1, "a")
	addSegments(t, x, 0, 2)
	wantSegments(t, x, "2:2-0")
}

// All docs that a merge began with may be dead when it is finished.
func TestP12AllDieMeanwhile(t *testing.T) {
	x := newIndex(t, 2, 2)
	addSegments(t, x, 0, 2, 2)
	wantStart(t, x, true, api.OK)
	for id := range 4 {
		wantDelete(t, x, id, api.OK)
	}
	wantFinish(t, x, true)
	wantSegments(t, x, "2:4-4")
	wantDelete(t, x, 1, api.ErrNone)
	wantLen(t, x, 0)
	addSegments(t, x, 0, 2, 2)
	wantSegments(t, x, "2:4-4 3:2-0 4:2-0")
	wantMerge(t, x, "2:4-4 5:4-0")
	wantMerge(t, x, "6:4-0")
}

// While a merge is under way all goes on: what is flushed then is not part of it.
func TestP12Meanwhile(t *testing.T) {
	x := newIndex(t, 2, 2)
	addSegments(t, x, 0, 1, 1)
	wantOpen(t, x, 0)
	wantStart(t, x, true, api.OK)
	wantSegments(t, x, "0:1-0 1:1-0")
	wantAdd(t, x, 0, "b", api.OK)
	wantSegments(t, x, "0:1-1 1:1-0")
	wantAdd(t, x, 5, "a", api.OK)
	wantSegments(t, x, "0:1-1 1:1-0 2:2-0")
	wantAdd(t, x, 0, "c", api.OK)
	wantSegments(t, x, "0:1-1 1:1-0 2:2-1")
	wantOpen(t, x, 1)
	wantSegments(t, x, "0:1-1 1:1-0 2:2-1 3:1-0")
	wantAdd(t, x, 6, "a", api.OK)
	wantFlush(t, x, true)
	wantLen(t, x, 4)
	wantDelete(t, x, 1, api.OK)
	wantClose(t, x, 0, api.OK)
	wantNoSearch(t, x, 0, "a", 1, api.ErrReader)
	wantOpen(t, x, 0)
	for range 2 {
		wantIds(t, x, 1, "a", 1, 5)
		wantIds(t, x, 1, "b")
		wantIds(t, x, 1, "c", 0)
		wantIds(t, x, 0, "a", 5, 6)
		wantIds(t, x, 0, "!a", 0)
		wantLen(t, x, 3)
		x.Finish()
		wantSegments(t, x, "2:2-1 3:1-0 4:1-0 5:2-2")
	}
}

// The views of readers stay as they are, opened before a merge, during it or behind it.
func TestP12Views(t *testing.T) {
	x := newIndex(t, 1, 2)
	wantAdd(t, x, 1, "red", api.OK)
	wantAdd(t, x, 2, "red fox", api.OK)
	wantOpen(t, x, 0)
	wantStart(t, x, true, api.OK)
	wantDelete(t, x, 1, api.OK)
	wantOpen(t, x, 1)
	wantFinish(t, x, true)
	wantOpen(t, x, 2)
	wantAdd(t, x, 2, "hen", api.OK)
	wantAdd(t, x, 1, "hen", api.OK)
	wantMerge(t, x, "2:2-2 5:2-0")
	wantMerge(t, x, "6:2-0")
	wantOpen(t, x, 3)
	wantIds(t, x, 0, "red", 1, 2)
	wantIds(t, x, 0, `"red fox"`, 2)
	wantIds(t, x, 1, "red", 2)
	wantIds(t, x, 2, "red", 2)
	wantIds(t, x, 2, "hen")
	wantIds(t, x, 3, "red")
	wantIds(t, x, 3, "hen", 1, 2)
}

// Texts that were merged come and go like all others.
func TestP12Behind(t *testing.T) {
	x := newIndex(t, 2, 2)
	addSegments(t, x, 0, 2, 2)
	wantMerge(t, x, "2:4-0")
	wantDelete(t, x, 2, api.OK)
	wantDelete(t, x, 2, api.ErrNone)
	wantSegments(t, x, "2:4-1")
	wantAdd(t, x, 0, "b", api.OK)
	wantSegments(t, x, "2:4-2")
	wantLen(t, x, 3)
	wantDelete(t, x, 0, api.OK)
	wantSegments(t, x, "2:4-2")
	wantOpen(t, x, 0)
	wantIds(t, x, 0, "a|b", 1, 3)
}

// A text that goes and comes again while its merge is under way is not the one that is merged.
func TestP12ComesAgain(t *testing.T) {
	x := newIndex(t, 2, 2)
	addSegments(t, x, 0, 1, 1)
	wantStart(t, x, true, api.OK)
	wantDelete(t, x, 0, api.OK)
	wantAdd(t, x, 0, "b", api.OK)
	wantFinish(t, x, true)
	wantSegments(t, x, "2:2-1")
	wantDelete(t, x, 0, api.OK)
	wantSegments(t, x, "2:2-1")
	wantDelete(t, x, 1, api.OK)
	wantSegments(t, x, "2:2-2")
	wantLen(t, x, 0)
}

func TestP12Full(t *testing.T) {
	x := newIndex(t, 8, 2)
	addSegments(t, x, 0, 8, 8, 8, 8, 8, 8, 8, 4)
	wantStart(t, x, true, api.OK)
	wantAdd(t, x, 60, "a", api.ErrFull)
	wantDelete(t, x, 0, api.OK)
	wantAdd(t, x, 60, "a", api.OK)
	wantAdd(t, x, 0, "a", api.ErrFull)
	wantFinish(t, x, true)
	wantAdd(t, x, 0, "a", api.ErrFull)
	wantAdd(t, x, 1, "b", api.OK)
	wantLen(t, x, 60)
	wantSegments(t, x, "2:8-0 3:8-0 4:8-0 5:8-0 6:8-0 7:4-0 8:16-2")
}

// Of a merge that was given up nothing is left: the next one asks anew what is dead.
func TestP12Abandon(t *testing.T) {
	x := newIndex(t, 2, 2)
	addSegments(t, x, 0, 2, 2)
	wantAdd(t, x, 9, "b", api.OK)
	wantStart(t, x, true, api.OK)
	wantDelete(t, x, 0, api.OK)
	wantOpen(t, x, 0)
	wantAdd(t, x, 8, "b", api.OK)
	wantAbandon(t, x, true)
	wantSegments(t, x, "0:2-1 1:2-0 2:1-0")
	wantLen(t, x, 5)
	wantIds(t, x, 0, "a|b", 1, 2, 3, 9)
	wantFlush(t, x, true)
	wantMerge(t, x, "0:2-1 1:2-0 4:2-0")
	wantMerge(t, x, "4:2-0 5:3-0")
	wantIds(t, x, 0, "a|b", 1, 2, 3, 9)
}

// The least class may be another one when a merge was given up.
func TestP12AbandonThenLess(t *testing.T) {
	x := newIndex(t, 2, 2)
	addSegments(t, x, 0, 2, 2)
	wantStart(t, x, true, api.OK)
	addSegments(t, x, 4, 1, 1)
	wantAbandon(t, x, true)
	wantMerge(t, x, "0:2-0 1:2-0 4:2-0")
	wantMerge(t, x, "4:2-0 5:4-0")
}
