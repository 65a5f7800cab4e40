package sift_test

import (
	"bytes"
	"fmt"
	"slices"
	"strings"
	"testing"

	"sift/api"
	"sift/sift"
)

func wantCommit(t *testing.T, x *sift.Index, want api.Errno) {
	t.Helper()
	if err := x.Commit(); err != want {
		t.Errorf("Commit() = %d, want %d", err, want)
	}
}

func wantBreak(t *testing.T, x *sift.Index, n int, want api.Errno) {
	t.Helper()
	if err := x.Break(n); err != want {
		t.Errorf("Break(%d) = %d, want %d", n, err, want)
	}
}

func wantRecover(t *testing.T, x *sift.Index, want api.Errno) {
	t.Helper()
	if err := x.Recover(); err != want {
		t.Errorf("Recover() = %d, want %d", err, want)
	}
}

// wantBroken lets a commit be broken off behind so many steps.
func wantBroken(t *testing.T, x *sift.Index, n int, files string) {
	t.Helper()
	wantBreak(t, x, n, api.OK)
	wantCommit(t, x, api.ErrDown)
	wantFiles(t, x, files)
	wantDown(t, x)
	wantFiles(t, x, files)
}

func wantFiles(t *testing.T, x *sift.Index, want string) {
	t.Helper()
	if got := strings.Join(x.Files(), " "); got != want {
		t.Errorf("Files() = %s, want %s", got, want)
	}
}

func wantFile(t *testing.T, x *sift.Index, name string, want []byte) {
	t.Helper()
	if got, err := x.File(name); err != api.OK || !bytes.Equal(got, want) {
		t.Errorf("File(%q) = %v, %d, want %v", name, got, err, want)
	}
}

// filesOf gives all files of an index with their names.
func filesOf(t *testing.T, x *sift.Index) ([]string, [][]byte) {
	t.Helper()
	names := x.Files()
	var files [][]byte
	for _, name := range names {
		file, err := x.File(name)
		if err != api.OK {
			t.Errorf("File(%q) = %v, %d", name, file, err)
		}
		files = append(files, file)
	}
	return names, files
}

// wantDown asks for each call that an index that is down does not do, each with arguments
// that are right and with some that are wrong.
func wantDown(t *testing.T, x *sift.Index) {
	t.Helper()
	want := func(call string, err api.Errno, nothing bool) {
		t.Helper()
		if err != api.ErrDown || !nothing {
			t.Errorf("%s of an index that is down: %d, without results: %v", call, err, nothing)
		}
	}
	for _, n := range []int{0, 1, -1, 1 << 62} {
		want("Add", x.Add(n, "a"), true)
		want("Add", x.Add(n, strings.Repeat("a", 121)), true)
		want("Delete", x.Delete(n), true)
		want("Close", x.Close(n), true)
		want("Break", x.Break(n), true)
		found, err := x.Search(n, "a", n, n)
		want("Search", err, found.Ids == nil && found.Total == 0)
		found, err = x.Search(n, "", n, 1)
		want("Search", err, found.Ids == nil && found.Total == 0)
	}
	count, err := x.Len()
	want("Len", err, count == 0)
	flushed, err := x.Flush()
	want("Flush", err, !flushed)
	list, err := x.Segments()
	want("Segments", err, list == nil)
	reader, err := x.Open()
	want("Open", err, reader == 0)
	started, err := x.Start()
	want("Start", err, !started)
	finished, err := x.Finish()
	want("Finish", err, !finished)
	abandoned, err := x.Abandon()
	want("Abandon", err, !abandoned)
	want("Commit", x.Commit(), true)
}

// exampleIndex is that of the document's examples, ahead of its first commit.
func exampleIndex(t *testing.T) *sift.Index {
	t.Helper()
	x := newIndex(t, 2, 2)
	wantAdd(t, x, 5, "red fox", api.OK)
	wantAdd(t, x, 2, "red hen", api.OK)
	wantAdd(t, x, 9, "Fox", api.OK)
	wantOpen(t, x, 0)
	wantDelete(t, x, 5, api.OK)
	wantAdd(t, x, 9, "hen", api.OK)
	wantOpen(t, x, 1)
	wantStart(t, x, true, api.OK)
	wantDelete(t, x, 9, api.OK)
	wantFinish(t, x, true)
	return x
}

func TestP13Example(t *testing.T) {
	x := exampleIndex(t)
	wantFiles(t, x, "")
	wantCommit(t, x, api.OK)
	wantFiles(t, x, "c1 s0 s3")
	wantFile(t, x, "c1", sealed('C', 1, 4, 2, 0, 2, 0b10, 3, 1, 0b1))
	wantFile(t, x, "s0", fileOf([]api.Doc{{Id: 2, Body: "red hen"}, {Id: 5, Body: "red fox"}}))
	wantFile(t, x, "s3", fileOf([]api.Doc{{Id: 9, Body: "hen"}}))
	wantIds(t, x, 0, "fox", 5, 9)
	wantIds(t, x, 1, "hen", 2, 9)
	wantAdd(t, x, 1, "owl", api.OK)
	wantBroken(t, x, 2, "c1 s0 s3 s4")
	wantFile(t, x, "s4", fileOf([]api.Doc{{Id: 1, Body: "owl"}}))
	wantRecover(t, x, api.OK)
	wantFiles(t, x, "c1 s0 s3")
	wantLen(t, x, 1)
	wantOpen(t, x, 0)
	wantIds(t, x, 0, "red", 2)
}

func TestP13Nothing(t *testing.T) {
	x := newIndex(t, 2, 2)
	wantCommit(t, x, api.OK)
	wantFiles(t, x, "c1")
	wantFile(t, x, "c1", sealed('C', 1, 0, 0))
	wantCommit(t, x, api.OK)
	wantFiles(t, x, "c2")
	wantFile(t, x, "c2", sealed('C', 2, 0, 0))
}

// Gathered texts are flushed, whether the commit is done or broken off; texts that were
// gathered no more make no segment.
func TestP13Flushes(t *testing.T) {
	x := newIndex(t, 8, 2)
	wantAdd(t, x, 7, "b", api.OK)
	wantAdd(t, x, 3, "a", api.OK)
	wantCommit(t, x, api.OK)
	wantSegments(t, x, "0:2-0")
	wantFlush(t, x, false)
	wantFiles(t, x, "c1 s0")
	wantFile(t, x, "c1", sealed('C', 1, 1, 1, 0, 2, 0))
	wantAdd(t, x, 4, "a", api.OK)
	wantDelete(t, x, 4, api.OK)
	wantCommit(t, x, api.OK)
	wantSegments(t, x, "0:2-0")
	wantFiles(t, x, "c2 s0")
	wantAdd(t, x, 3, "c", api.OK)
	wantCommit(t, x, api.OK)
	wantSegments(t, x, "0:2-1 1:1-0")
	wantFiles(t, x, "c3 s0 s1")
	wantFile(t, x, "c3", sealed('C', 3, 2, 2, 0, 2, 0b01, 1, 1, 0))
	wantLen(t, x, 2)
}

// Segments that were merged away leave their files till the next commit, and gaps in the numbers.
func TestP13Merged(t *testing.T) {
	x := newIndex(t, 1, 2)
	addSegments(t, x, 0, 1, 1, 1)
	wantCommit(t, x, api.OK)
	wantFiles(t, x, "c1 s0 s1 s2")
	wantMerge(t, x, "2:1-0 3:2-0")
	wantFiles(t, x, "c1 s0 s1 s2")
	wantDelete(t, x, 0, api.OK)
	wantCommit(t, x, api.OK)
	wantFiles(t, x, "c2 s2 s3")
	wantFile(t, x, "c2", sealed('C', 2, 4, 2, 2, 1, 0, 3, 2, 0b01))
	wantFile(t, x, "s3", fileOf([]api.Doc{{Id: 0, Body: "a"}, {Id: 1, Body: "a"}}))
	wantDelete(t, x, 1, api.OK)
	wantDelete(t, x, 2, api.OK)
	addSegments(t, x, 5, 1)
	wantMerge(t, x, "3:2-2 5:1-0")
	wantCommit(t, x, api.OK)
	wantFiles(t, x, "c3 s3 s5")
	wantFile(t, x, "c3", sealed('C', 3, 6, 2, 3, 2, 0b11, 5, 1, 0))
}

// Dead docs are told eight a byte, the first one by the lowest bit.
func TestP13DeadBits(t *testing.T) {
	for _, c := range []struct {
		docs, gone int
		bits       []byte
	}{
		{1, 0, []byte{1}}, {8, 7, []byte{0x80}}, {9, 8, []byte{0, 1}}, {9, 0, []byte{1, 0}}, {16, 15, []byte{0, 0x80}}, {17, 16, []byte{0, 0, 1}},
		{60, 59, []byte{0, 0, 0, 0, 0, 0, 0, 8}}, {60, 56, []byte{0, 0, 0, 0, 0, 0, 0, 1}}, {60, 33, []byte{0, 0, 0, 0, 2, 0, 0, 0}},
	} {
		var docs []api.Doc
		for id := range c.docs {
			docs = append(docs, api.Doc{Id: id, Body: "a"})
		}
		alive := slices.Concat([]byte{'C', 1, 1, 1, 0, byte(c.docs)}, make([]byte, len(c.bits)))
		x := wantLoad(t, []string{"c1", "s0"}, [][]byte{sealed(alive...), fileOf(docs)})
		wantDelete(t, x, c.gone, api.OK)
		wantCommit(t, x, api.OK)
		wantFile(t, x, "c2", sealed(slices.Concat([]byte{'C', 2, 1, 1, 0, byte(c.docs)}, c.bits)...))
		wantBroken(t, x, 0, "c2 s0")
		wantRecover(t, x, api.OK)
		wantDelete(t, x, c.gone, api.ErrNone)
		wantLen(t, x, c.docs-1)
		wantSegments(t, x, fmt.Sprintf("0:%d-1", c.docs))
	}
}

// Numbers of more than seven bits, of commits and of segments.
func TestP13GreatNumbers(t *testing.T) {
	x := newIndex(t, 1, 4)
	for range 130 {
		wantAdd(t, x, 300, "a", api.OK)
		x.Start()
		x.Finish()
		wantCommit(t, x, api.OK)
	}
	list, _ := x.Segments()
	last := modelCommit{number: 130}
	for _, s := range list {
		m := &modelSegment{number: s.Number, docs: make([]api.Text, s.Docs), dead: map[int]bool{}}
		if s.Dead == 1 {
			m.dead[0] = true
		}
		last.segments = append(last.segments, m)
		last.next = s.Number + 1
	}
	if len(list) == 0 || last.next < 130 {
		t.Fatalf("Segments() = %+v", list)
	}
	wantFile(t, x, "c130", last.file())
	wantFiles(t, x, strings.Join(last.names(), " "))
	wantBroken(t, x, 0, strings.Join(last.names(), " "))
	wantRecover(t, x, api.OK)
	wantAdd(t, x, 1, "b", api.OK)
	after, _ := x.Segments()
	if len(after) != len(list)+1 || after[len(list)].Number != last.next || !slices.Equal(after[:len(list)], list) {
		t.Errorf("Segments() = %+v behind %+v", after, list)
	}
}

// stepsIndex has a commit done, of which two segments are gone, and two new segments.
func stepsIndex(t *testing.T) *sift.Index {
	t.Helper()
	x := newIndex(t, 1, 2)
	addSegments(t, x, 0, 1, 1)
	wantCommit(t, x, api.OK)
	wantMerge(t, x, "2:2-0")
	wantDelete(t, x, 0, api.OK)
	addSegments(t, x, 7, 1)
	wantOpen(t, x, 0)
	return x
}

// A commit is broken off behind each number of its steps, and recovered: up to the step
// with which it is done there is what there was ahead of it, from then on what it told.
func TestP13EachStep(t *testing.T) {
	const older, newer = "0:1-0 1:1-0", "2:2-1 3:1-0"
	for n, c := range []struct{ down, up, segments string }{
		{"c1 s0 s1", "c1 s0 s1", older},
		{"c1 s0 s1", "c1 s0 s1", older}, // s2 was written
		{"c1 s0 s1 s2", "c1 s0 s1", older},
		{"c1 s0 s1 s2", "c1 s0 s1", older}, // s3 was written
		{"c1 s0 s1 s2 s3", "c1 s0 s1", older},
		{"c1 s0 s1 s2 s3", "c1 s0 s1", older}, // t was written
		{"c1 s0 s1 s2 s3 t", "c1 s0 s1", older},
		{"c1 c2 s0 s1 s2 s3", "c2 s2 s3", newer},
		{"c2 s0 s1 s2 s3", "c2 s2 s3", newer},
		{"c2 s1 s2 s3", "c2 s2 s3", newer},
	} {
		x := stepsIndex(t)
		wantBroken(t, x, n, c.down)
		wantRecover(t, x, api.OK)
		wantFiles(t, x, c.up)
		wantSegments(t, x, c.segments)
		wantLen(t, x, 2)
		wantOpen(t, x, 0)
		if c.segments == older {
			wantIds(t, x, 0, "a", 0, 1)
		} else {
			wantIds(t, x, 0, "a", 1, 7)
		}
		behind := map[string]string{older: "c2 s0 s1", newer: "c3 s2 s3"}
		wantCommit(t, x, api.OK)
		wantFiles(t, x, behind[c.segments])
	}
	x := stepsIndex(t)
	wantBreak(t, x, 10, api.OK)
	wantCommit(t, x, api.OK)
	wantFiles(t, x, "c2 s2 s3")
	wantIds(t, x, 0, "a", 1, 7)
	wantBreak(t, x, 3, api.OK) // t is written, synced and named
	wantCommit(t, x, api.ErrDown)
	wantFiles(t, x, "c2 c3 s2 s3")
}

// What is written ahead of going down is right to the byte, t among it.
func TestP13Draft(t *testing.T) {
	x := stepsIndex(t)
	wantBroken(t, x, 6, "c1 s0 s1 s2 s3 t")
	wantFile(t, x, "t", sealed('C', 2, 4, 2, 2, 2, 0b01, 3, 1, 0))
	wantFile(t, x, "c1", sealed('C', 1, 2, 2, 0, 1, 0, 1, 1, 0))
	wantFile(t, x, "s2", fileOf([]api.Doc{{Id: 0, Body: "a"}, {Id: 1, Body: "a"}}))
	wantFile(t, x, "s3", fileOf([]api.Doc{{Id: 7, Body: "a"}}))
}

// Files are deleted in the order of their names, not of their numbers; and the last commit
// is the one of the greatest number, not of the last name.
func TestP13OrderOfNames(t *testing.T) {
	deleted := strings.Fields("c9 s0 s1 s10 s11 s2 s3 s4 s5 s6 s7 s8 s9")
	kept := strings.Fields("c10 s12 s13 s14 s15 s16 s17")
	const merged = "12:2-0 13:2-0 14:2-0 15:2-0 16:2-0 17:2-0"
	for count := range deleted {
		x := newIndex(t, 1, 2)
		for id := range 12 {
			wantAdd(t, x, id, "a", api.OK)
		}
		for range 9 {
			wantCommit(t, x, api.OK)
		}
		for range 6 {
			wantStart(t, x, true, api.OK)
			wantFinish(t, x, true)
		}
		wantSegments(t, x, merged)
		left := slices.Concat(kept, deleted[count:])
		slices.Sort(left)
		wantBroken(t, x, 2*6+3+count, strings.Join(left, " "))
		wantRecover(t, x, api.OK)
		wantFiles(t, x, strings.Join(kept, " "))
		wantSegments(t, x, merged)
		wantAdd(t, x, 0, "b", api.OK)
		wantCommit(t, x, api.OK)
		wantFiles(t, x, strings.Join(append([]string{"c11"}, kept[1:]...), " ")+" s18")
	}
}

// Readers keep their views over commits, and a merge goes on.
func TestP13Meanwhile(t *testing.T) {
	x := newIndex(t, 2, 2)
	addSegments(t, x, 0, 1, 1)
	wantOpen(t, x, 0)
	wantStart(t, x, true, api.OK)
	wantDelete(t, x, 0, api.OK)
	wantAdd(t, x, 5, "b", api.OK)
	wantCommit(t, x, api.OK)
	wantSegments(t, x, "0:1-1 1:1-0 2:1-0")
	wantFiles(t, x, "c1 s0 s1 s2")
	wantFile(t, x, "c1", sealed('C', 1, 3, 3, 0, 1, 1, 1, 1, 0, 2, 1, 0))
	wantIds(t, x, 0, "a", 0, 1)
	wantStart(t, x, false, api.ErrBusy)
	wantDelete(t, x, 1, api.OK)
	wantFinish(t, x, true)
	wantSegments(t, x, "2:1-0 3:2-2")
	wantFiles(t, x, "c1 s0 s1 s2")
	wantCommit(t, x, api.OK)
	wantFiles(t, x, "c2 s2 s3")
	wantIds(t, x, 0, "a", 0, 1)
	wantOpen(t, x, 1)
	wantIds(t, x, 1, "a|b", 5)
	wantClose(t, x, 0, api.OK)
}
