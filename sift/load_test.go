package sift_test

import (
	"bytes"
	"fmt"
	"math/rand"
	"slices"
	"strings"
	"testing"

	"sift/api"
	"sift/sift"
)

var loadSettings = api.Config{Buffer: 2, Factor: 2}

func wantLoad(t *testing.T, names []string, files [][]byte) *sift.Index {
	t.Helper()
	x, err := sift.Load(loadSettings, names, files)
	if x == nil || err != api.OK {
		t.Fatalf("Load(%q, %v) = %v, %d, want an index", names, files, x, err)
	}
	return x
}

func wantNoLoad(t *testing.T, what string, names []string, files [][]byte) {
	t.Helper()
	if x, err := sift.Load(loadSettings, names, files); x != nil || err != api.ErrForm {
		t.Errorf("%s: Load(%q, %v) = %v, %d, want nil, ErrForm", what, names, files, x, err)
	}
}

// one gives the file of one doc.
func one(id int) []byte {
	return fileOf([]api.Doc{{Id: id, Body: "a"}})
}

func TestP17Example(t *testing.T) {
	x := exampleIndex(t)
	wantCommit(t, x, api.OK)
	names, files := filesOf(t, x)
	for _, order := range [][]int{{0, 1, 2}, {0, 2, 1}, {1, 0, 2}, {1, 2, 0}, {2, 0, 1}, {2, 1, 0}} {
		var someNames []string
		var someFiles [][]byte
		for _, i := range order {
			someNames = append(someNames, names[i])
			someFiles = append(someFiles, files[i])
		}
		y := wantLoad(t, someNames, someFiles)
		wantFiles(t, y, "c1 s0 s3")
		for i, name := range names {
			wantFile(t, y, name, files[i])
		}
		wantSegments(t, y, "0:2-1 3:1-1")
		wantLen(t, y, 1)
		wantRecover(t, y, api.ErrState)
		for reader := range 4 {
			wantClose(t, y, reader, api.ErrReader)
		}
		wantFinish(t, y, false)
		wantFlush(t, y, false)
		wantOpen(t, y, 0)
		wantIds(t, y, 0, "red", 2)
		wantIds(t, y, 0, "!red")
		wantAdd(t, y, 1, "owl", api.OK)
		wantCommit(t, y, api.OK)
		wantFiles(t, y, "c2 s0 s3 s4")
		wantFile(t, y, "c2", sealed('C', 2, 5, 3, 0, 2, 0b10, 3, 1, 0b1, 4, 1, 0))
	}
	wantFiles(t, x, "c1 s0 s3")
	wantLen(t, x, 1)
}

// The files that are handed in are synced: they are still there when the index goes down.
func TestP17Synced(t *testing.T) {
	x := wantLoad(t, []string{"s4", "c7"}, [][]byte{one(3), sealed('C', 7, 9, 1, 4, 1, 0)})
	wantDelete(t, x, 3, api.OK)
	wantBroken(t, x, 2, "c7 s4 t")
	wantRecover(t, x, api.OK)
	wantFiles(t, x, "c7 s4")
	wantSegments(t, x, "4:1-0")
	wantAdd(t, x, 5, "a", api.OK)
	wantCommit(t, x, api.OK)
	wantFiles(t, x, "c8 s4 s9")
	wantSegments(t, x, "4:1-0 9:1-0")
}

func TestP17Settings(t *testing.T) {
	names, files := []string{"c1"}, [][]byte{sealed('C', 1, 0, 0)}
	const least, most = -1 << 63, 1<<63 - 1
	for _, buffer := range []int{least, 0, 1, 8, 9, most} {
		for _, factor := range []int{least, 1, 2, 4, 5, most} {
			mayBe := 1 <= buffer && buffer <= 8 && 2 <= factor && factor <= 4
			c := api.Config{Buffer: buffer, Factor: factor}
			x, err := sift.Load(c, names, files)
			if mayBe && (x == nil || err != api.OK) || !mayBe && (x != nil || err != api.ErrConfig) {
				t.Errorf("Load with %v = %v, %d", c, x, err)
			}
			y, err := sift.Load(c, nil, files)
			if want := map[bool]api.Errno{true: api.ErrForm, false: api.ErrConfig}[mayBe]; y != nil || err != want {
				t.Errorf("Load with %v and wrong files = %v, %d, want %d", c, y, err, want)
			}
		}
	}
	x, _ := sift.Load(api.Config{Buffer: 3, Factor: 3}, names, files)
	wantAdd(t, x, 1, "a", api.OK)
	wantAdd(t, x, 2, "a", api.OK)
	wantSegments(t, x, "")
	wantAdd(t, x, 3, "a", api.OK)
	wantSegments(t, x, "0:3-0")
	addSegments(t, x, 10, 3)
	wantStart(t, x, false, api.OK)
	addSegments(t, x, 20, 3)
	wantMerge(t, x, "3:9-0")
}

func TestP17Names(t *testing.T) {
	empty := sealed('C', 1, 0, 0)
	wantNoLoad(t, "nothing", nil, nil)
	wantNoLoad(t, "no name", nil, [][]byte{empty})
	wantNoLoad(t, "no file", []string{"c1"}, nil)
	wantNoLoad(t, "a file too many", []string{"c1"}, [][]byte{empty, empty})
	wantNoLoad(t, "a name too many", []string{"c1", "s0"}, [][]byte{empty})
	wantNoLoad(t, "a name twice", []string{"c1", "c1"}, [][]byte{empty, empty})
	wantNoLoad(t, "two commits", []string{"c1", "c2"}, [][]byte{empty, sealed('C', 2, 0, 0)})
	wantNoLoad(t, "two commits, one of them wrong", []string{"c0", "c1"}, [][]byte{nil, empty})
	wantNoLoad(t, "a draft too", []string{"c1", "t"}, [][]byte{empty, sealed('C', 2, 0, 0)})
	for _, name := range []string{"", "c", "c0", "c2", "c01", "c+1", "c-1", "c1 ", " c1", "c1\x00", "C1", "c１", "s1", "t", "1", "c11"} {
		wantNoLoad(t, "another name", []string{name}, [][]byte{empty})
	}
	wantLoad(t, []string{"c1"}, [][]byte{empty})

	commit := sealed('C', 1, 2, 1, 1, 1, 0)
	wantLoad(t, []string{"c1", "s1"}, [][]byte{commit, one(5)})
	for _, name := range []string{"", "s", "s0", "s2", "s01", "s+1", "s1 ", "S1", "c2", "t", "a", "zz"} {
		wantNoLoad(t, "another name", []string{"c1", name}, [][]byte{commit, one(5)})
		wantNoLoad(t, "one too many", []string{name, "c1", "s1"}, [][]byte{one(5), commit, one(5)})
	}
	wantNoLoad(t, "a segment lacks", []string{"c1"}, [][]byte{commit})
	wantNoLoad(t, "the commit lacks", []string{"s1"}, [][]byte{one(5)})
	wantNoLoad(t, "a segment twice", []string{"s1", "c1", "s1"}, [][]byte{one(5), commit, one(5)})
	wantNoLoad(t, "interchanged", []string{"s1", "c1"}, [][]byte{commit, one(5)})
	wantNoLoad(t, "a commit under the name of its segment", []string{"s1"}, [][]byte{commit})
}

func TestP17Commits(t *testing.T) {
	for what, commit := range map[string][]byte{
		"nothing":               nil,
		"a sum alone":           sealed(),
		"a wrong sum":           {'C', 1, 1, 1, 0, 1, 0, 0, 0, 0, 0},
		"another mark":          sealed('S', 1, 1, 1, 0, 1, 0),
		"a mark alone":          sealed('C'),
		"another number":        sealed('C', 2, 1, 1, 0, 1, 0),
		"number 0":              sealed('C', 0, 1, 1, 0, 1, 0),
		"no segment":            sealed('C', 1, 1, 0),
		"fewer than told":       sealed('C', 1, 2, 2, 0, 1, 0),
		"more than told":        sealed('C', 1, 2, 1, 0, 1, 0, 1, 1, 0),
		"too many told":         sealed('C', 1, 1, 0xff, 0xff, 0xff, 0x7f, 0, 1, 0),
		"next too low":          sealed('C', 1, 0, 1, 0, 1, 0),
		"a number of its own":   sealed('C', 1, 1, 1, 1, 1, 0),
		"fewer docs":            sealed('C', 1, 1, 1, 0, 0),
		"fewer docs and a byte": sealed('C', 1, 1, 1, 0, 0, 0),
		"more docs":             sealed('C', 1, 1, 1, 0, 2, 0),
		"nine docs":             sealed('C', 1, 1, 1, 0, 9, 0, 0),
		"very many docs":        sealed('C', 1, 1, 1, 0, 0xff, 0xff, 0xff, 0x7f, 0),
		"61 docs":               sealed('C', 1, 1, 1, 0, 61, 0, 0, 0, 0, 0, 0, 0, 0),
		"no dead ones told":     sealed('C', 1, 1, 1, 0, 1),
		"one byte more":         sealed('C', 1, 1, 1, 0, 1, 0, 0),
		"a dead doc behind":     sealed('C', 1, 1, 1, 0, 1, 0b10),
		"a dead doc far behind": sealed('C', 1, 1, 1, 0, 1, 0x80),
		"number of two bytes":   sealed('C', 0x81, 0, 1, 1, 0, 1, 0),
		"next of two bytes":     sealed('C', 1, 0x81, 0, 1, 0, 1, 0),
		"count of two bytes":    sealed('C', 1, 1, 0x81, 0, 0, 1, 0),
		"0 of two bytes":        sealed('C', 1, 1, 1, 0x80, 0, 1, 0),
		"docs of two bytes":     sealed('C', 1, 1, 1, 0, 0x81, 0, 0),
		"the same number twice": sealed('C', 1, 2, 2, 0, 1, 1, 0, 1, 1),
		"bytes behind the sum":  append(sealed('C', 1, 1, 1, 0, 1, 0), 0),
	} {
		wantNoLoad(t, what, []string{"c1", "s0"}, [][]byte{commit, one(5)})
	}
	wantLoad(t, []string{"c1", "s0"}, [][]byte{sealed('C', 1, 1, 1, 0, 1, 0), one(5)})
	wantLoad(t, []string{"c1", "s0"}, [][]byte{sealed('C', 1, 1, 1, 0, 1, 1), one(5)})
	wantLoad(t, []string{"c1", "s0"}, [][]byte{sealed('C', 1, 99, 1, 0, 1, 0), one(5)})
}

func TestP17Numbers(t *testing.T) {
	for _, c := range []struct {
		next, first, second int
		ok                  bool
	}{
		{2, 0, 1, true}, {9, 3, 8, true}, {300, 127, 128, true}, {2, 1, 0, false}, {2, 1, 1, false}, {1, 0, 1, false}, {8, 3, 8, false}, {0, 0, 1, false}, {3, 1, 2, true},
	} {
		first, second := fmt.Sprint("s", c.first), fmt.Sprint("s", c.second)
		commit := sealed(slices.Concat([]byte{'C', 1}, small(c.next), []byte{2}, small(c.first), []byte{1, 0}, small(c.second), []byte{1, 0})...)
		names, files := []string{second, "c1", first}, [][]byte{one(6), commit, one(5)}
		if !c.ok {
			wantNoLoad(t, "numbers", names, files)
			continue
		}
		x := wantLoad(t, names, files)
		wantSegments(t, x, fmt.Sprintf("%d:1-0 %d:1-0", c.first, c.second))
		addSegments(t, x, 50, 1)
		wantSegments(t, x, fmt.Sprintf("%d:1-0 %d:1-0 %d:1-0", c.first, c.second, c.next))
	}
}

// Numbers have at most four bytes in files that are handed in; an index may come further.
func TestP17GreatNumbers(t *testing.T) {
	const most = 1<<28 - 1
	for _, c := range []struct {
		number, next int
		ok           bool
	}{
		{most, most, true}, {most, 0, true}, {1, most, true}, {most + 1, 1, false}, {1, most + 1, false}, {1 << 35, 1, false}, {1, 1 << 35, false}, {1<<63 - 1, 1, false}, {1, 1<<63 - 1, false},
	} {
		names := []string{fmt.Sprint("c", c.number)}
		files := [][]byte{sealed(slices.Concat([]byte("C"), small(c.number), small(c.next), []byte{0})...)}
		if !c.ok {
			wantNoLoad(t, "great numbers", names, files)
			continue
		}
		wantFiles(t, wantLoad(t, names, files), names[0])
	}
	wraps := sealed('C', 0x81, 0x80, 0x80, 0x80, 0x80, 0x80, 0x80, 0x80, 0x80, 2, 0, 0)
	wantNoLoad(t, "a number that wraps round", []string{"c1"}, [][]byte{wraps})

	x := wantLoad(t, []string{"c268435455", "s268435454"}, [][]byte{
		sealed(slices.Concat([]byte("C"), small(most), small(most), []byte{1}, small(most-1), []byte{1, 0})...), one(5),
	})
	addSegments(t, x, 6, 1, 1)
	wantDelete(t, x, 6, api.OK)
	wantCommit(t, x, api.OK)
	wantFiles(t, x, "c268435456 s268435454 s268435455 s268435456")
	wantBroken(t, x, 2, "c268435456 s268435454 s268435455 s268435456 t")
	wantRecover(t, x, api.OK)
	wantSegments(t, x, "268435454:1-0 268435455:1-1 268435456:1-0")
	wantCommit(t, x, api.OK)
	wantFiles(t, x, "c268435457 s268435454 s268435455 s268435456")
	names, files := filesOf(t, x)
	wantNoLoad(t, "numbers of five bytes", names, files)
}

// No id has two docs that are not dead; dead ones may be as many as there are.
func TestP17Ids(t *testing.T) {
	names := []string{"c1", "s0", "s1", "s2"}
	for dead := range 8 {
		commit := sealed('C', 1, 3, 3, 0, 1, byte(dead&1), 1, 1, byte(dead>>1&1), 2, 1, byte(dead>>2))
		files := [][]byte{commit, one(5), one(5), one(5)}
		if dead == 3 || dead == 5 || dead == 6 || dead == 7 {
			x := wantLoad(t, names, files)
			wantLen(t, x, map[bool]int{true: 0, false: 1}[dead == 7])
			wantAdd(t, x, 5, "b", api.OK)
			wantSegments(t, x, "0:1-1 1:1-1 2:1-1")
			continue
		}
		wantNoLoad(t, fmt.Sprintf("dead by bits %b", dead), names, files)
	}
}

// There are at most 60 docs that are not dead.
func TestP17Full(t *testing.T) {
	var lower, upper []api.Doc
	for id := range 31 {
		lower = append(lower, api.Doc{Id: id, Body: "a"})
		upper = append(upper, api.Doc{Id: 100 + id, Body: "a"})
	}
	names := []string{"c1", "s0", "s1"}
	load := func(first, second byte) (*sift.Index, api.Errno) {
		commit := sealed('C', 1, 2, 2, 0, 31, first, 0, 0, 0, 1, 31, 0, 0, 0, second)
		return sift.Load(loadSettings, names, [][]byte{commit, fileOf(lower), fileOf(upper)})
	}
	for _, c := range []struct{ first, second byte }{{0, 0}, {1, 0}, {0, 0x40}} {
		if x, err := load(c.first, c.second); x != nil || err != api.ErrForm {
			t.Errorf("Load of too many docs = %v, %d", x, err)
		}
	}
	x, err := load(1, 0x40)
	if x == nil || err != api.OK {
		t.Fatalf("Load of 60 docs = %v, %d", x, err)
	}
	wantLen(t, x, 60)
	wantAdd(t, x, 0, "a", api.ErrFull)
	wantDelete(t, x, 1, api.OK)
	wantAdd(t, x, 0, "a", api.OK)
	wantSegments(t, x, "0:31-2 1:31-1")
}

// Of a segment without docs the document says nothing that rules it out.
func TestP17NoDocs(t *testing.T) {
	x := wantLoad(t, []string{"c1", "s0", "s1"}, [][]byte{sealed('C', 1, 2, 2, 0, 0, 1, 0), fileOf(nil), fileOf(nil)})
	wantSegments(t, x, "0:0-0 1:0-0")
	wantOpen(t, x, 0)
	wantIds(t, x, 0, "!a")
	wantCommit(t, x, api.OK)
	wantFile(t, x, "c2", sealed('C', 2, 2, 2, 0, 0, 1, 0))
	wantMerge(t, x, "")
	for _, file := range [][]byte{nil, {'S', 0, 0}, sealed('S', 0), sealed('C', 1, 0, 0), one(5)} {
		wantNoLoad(t, "no docs, but another file", []string{"c1", "s0"}, [][]byte{sealed('C', 1, 1, 1, 0, 0), file})
	}
}

// A file of a segment is wrong just if Read says so.
func TestP17Segments(t *testing.T) {
	commit := sealed('C', 1, 1, 1, 0, 1, 0)
	for what, file := range map[string][]byte{
		"nothing":                  nil,
		"the commit":               commit,
		"a wrong sum":              append(one(5)[:len(one(5))-1], 0),
		"an id too great":          sealed('S', 1, 0xa0, 0x8d, 6, 0),
		"an id of five bytes":      sealed('S', 1, 0x80, 0x80, 0x80, 0x80, 1, 0),
		"no docs":                  fileOf(nil),
		"two docs":                 fileOf([]api.Doc{{Id: 1}, {Id: 2}}),
		"a word that is none":      sealed('S', 1, 0, 1, 1, 'A', 1, 0, 1, 0),
		"a place without a word":   sealed('S', 1, 0, 1, 1, 'a', 1, 0, 1, 1),
		"a byte behind":            append(one(5), 0),
		"a number in too many":     sealed('S', 0x81, 0, 5, 0),
		"terms that are too many":  sealed('S', 1, 5, 2, 1, 'a', 1, 0, 1, 0),
		"a term of too many bytes": sealed(slices.Concat([]byte{'S', 1, 5, 1, 9}, []byte("abcdefghi"), []byte{1, 0, 1, 0})...),
	} {
		wantNoLoad(t, what, []string{"c1", "s0"}, [][]byte{commit, file})
	}
}

// Each single bit of each file counts, and each byte.
func TestP17EachBit(t *testing.T) {
	x := exampleIndex(t)
	wantCommit(t, x, api.OK)
	names, files := filesOf(t, x)
	for i := range files {
		for at := range files[i] {
			for bit := range 8 {
				files[i][at] ^= 1 << bit
				wantNoLoad(t, "a bit turned", names, files)
				files[i][at] ^= 1 << bit
			}
			cut := slices.Clone(files)
			cut[i] = files[i][:at]
			wantNoLoad(t, "cut off", names, cut)
		}
	}
	wantLoad(t, names, files)
}

// readSmall reads a small number, however many bytes it has.
func readSmall(list []byte) (int, []byte) {
	n, shift := 0, 0
	for i, c := range list {
		n |= int(c&127) << shift
		shift += 7
		if c < 128 {
			return n, list[i+1:]
		}
	}
	return 0, nil
}

// commitOf reads the file of a commit without asking whether it may be, and tells whether
// its words, written anew, are the same bytes.
func commitOf(file []byte, files map[string][]byte) (modelCommit, bool) {
	var c modelCommit
	var count, docs int
	c.number, file = readSmall(file[1:])
	c.next, file = readSmall(file)
	count, file = readSmall(file)
	for range min(count, len(file)) {
		s := &modelSegment{dead: map[int]bool{}}
		s.number, file = readSmall(file)
		docs, file = readSmall(file)
		texts, err := sift.Read(files[fmt.Sprint("s", s.number)])
		if err != api.OK || docs != len(texts) || len(file) < (docs+7)/8 {
			return c, false
		}
		s.docs = texts
		for i, text := range texts {
			if file[i/8]>>(i%8)&1 == 1 {
				s.dead[text.Id] = true
			}
		}
		file = file[(docs+7)/8:]
		c.segments = append(c.segments, s)
	}
	return c, count == len(c.segments)
}

// mayBe tells whether there may be such a commit, of just so many files.
func (c modelCommit) mayBe(files int) bool {
	alive := map[int]int{}
	last := -1
	for _, s := range c.segments {
		if s.number <= last {
			return false
		}
		last = s.number
		for _, doc := range s.docs {
			if !s.dead[doc.Id] {
				alive[doc.Id]++
				if alive[doc.Id] > 1 {
					return false
				}
			}
		}
	}
	return c.number > 0 && last < c.next && len(alive) <= 60 && files == len(c.segments)+1 && c.number < 1<<28 && c.next < 1<<28
}

// However the file of a commit was spoiled and sealed anew: if it is taken, it is the file
// of what comes of it; and it is taken, if it may be.
func TestP17SpoiledDrawn(t *testing.T) {
	random := rand.New(rand.NewSource(9))
	taken := 0
	for range 3000 {
		x := exampleIndex(t)
		if random.Intn(2) == 0 {
			x = stepsIndex(t)
		}
		wantCommit(t, x, api.OK)
		names, files := filesOf(t, x)
		inner := slices.Clone(files[0][:len(files[0])-4])
		at := 1 + random.Intn(len(inner)-1)
		switch random.Intn(5) {
		case 0:
			inner[at] = byte(random.Intn(256))
		case 1, 2:
			inner[at] += byte(random.Intn(3)) - 1
		case 3:
			inner = slices.Insert(inner, at, byte(random.Intn(4)))
		case 4:
			inner = slices.Delete(inner, at, at+1)
		}
		files[0] = sealed(inner...)
		byName := map[string][]byte{}
		for i, name := range names {
			byName[name] = files[i]
		}
		read, whole := commitOf(inner, byName)
		names[0] = fmt.Sprint("c", read.number)
		if !whole || !bytes.Equal(read.file(), files[0]) || !read.mayBe(len(files)) {
			wantNoLoad(t, "spoiled", names, files)
			continue
		}
		taken++
		y := wantLoad(t, names, files)
		m := newModel(loadSettings)
		m.segments = read.segments
		if list, err := y.Segments(); err != api.OK || !slices.Equal(list, m.about()) {
			t.Errorf("Segments() = %+v, %d, want %+v", list, err, m.about())
		}
		wantLen(t, y, len(m.texts()))
		wantCommit(t, y, api.OK)
		read.number++
		wantFile(t, y, fmt.Sprint("c", read.number), read.file())
	}
	if taken < 200 {
		t.Errorf("only %d were taken: too few for this test", taken)
	}
}

// What is handed in is not written into, nor its spare room, and not kept.
func TestP2LoadHandedIn(t *testing.T) {
	x := exampleIndex(t)
	wantCommit(t, x, api.OK)
	keptNames, keptFiles := filesOf(t, x)
	names := append(slices.Clone(keptNames), "behind", "too")
	var files [][]byte
	for _, file := range keptFiles {
		files = append(files, append(slices.Clone(file), 1, 2, 3)[:len(file)])
	}
	files = append(files, []byte("behind"))
	y := wantLoad(t, names[:3], files[:3])
	wantNoLoad(t, "two alone", names[:2], files[:2])
	if !slices.Equal(names, append(slices.Clone(keptNames), "behind", "too")) || string(files[3]) != "behind" {
		t.Errorf("Load made %q, %q", names, files[3])
	}
	for i, file := range files[:3] {
		if !bytes.Equal(file[:len(file)+3], append(slices.Clone(keptFiles[i]), 1, 2, 3)) {
			t.Errorf("Load made %v of %v", file[:len(file)+3], keptFiles[i])
		}
		clear(file)
	}
	clear(names)
	clear(files)
	wantFiles(t, y, "c1 s0 s3")
	for i, name := range keptNames {
		wantFile(t, y, name, keptFiles[i])
	}
	wantBroken(t, y, 0, "c1 s0 s3")
	wantRecover(t, y, api.OK)
	wantSegments(t, y, "0:2-1 3:1-1")
}

// Files that no one should hand in: the call ends, does not panic, and gives nothing.
func TestP1LoadStrange(t *testing.T) {
	many := make([]string, 100000)
	for i := range many {
		many[i] = fmt.Sprint("s", i)
	}
	wantStrange := func(names []string, files [][]byte) {
		t.Helper()
		if x, err := sift.Load(loadSettings, names, files); x != nil || err != api.ErrForm {
			t.Errorf("Load of %d names and %d files = %v, %d", len(names), len(files), x, err)
		}
	}
	wantStrange(many, nil)
	wantStrange(many, make([][]byte, len(many)))
	wantStrange(make([]string, 1000), make([][]byte, 1000))
	huge := bytes.Repeat([]byte{0xff, 0xff, 0xff, 0x7f}, 1<<20)
	wantStrange([]string{"c268435455"}, [][]byte{sealed(append([]byte{'C'}, huge...)...)})
	zeros := make([]byte, 1<<22)
	wantStrange([]string{"c1"}, [][]byte{sealed(append([]byte{'C', 1, 0xff, 0xff, 0xff, 0x7f, 0xff, 0xff, 0xff, 0x7f}, zeros...)...)})
	for c := range 256 {
		for _, length := range []int{0, 1, 2, 5, 100} {
			text := strings.Repeat(string([]byte{byte(c)}), length)
			wantStrange([]string{"c1"}, [][]byte{[]byte(text)})
			wantStrange([]string{"c1"}, [][]byte{sealed([]byte("C" + text)...)})
			wantStrange([]string{text}, [][]byte{sealed('C', 1, 0, 0)})
		}
	}
}
