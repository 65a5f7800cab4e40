package sift_test

import (
	"fmt"
	"runtime"
	"slices"
	"strings"
	"testing"
	"time"

	"sift/api"
	"sift/sift"
)

func newIndex(t *testing.T, buffer, factor int) *sift.Index {
	t.Helper()
	x, err := sift.New(api.Config{Buffer: buffer, Factor: factor})
	if x == nil || err != api.OK {
		t.Fatalf("New(%d, %d) = %v, %d", buffer, factor, x, err)
	}
	return x
}

func wantAdd(t *testing.T, x *sift.Index, id int, body string, want api.Errno) {
	t.Helper()
	if err := x.Add(id, body); err != want {
		t.Errorf("Add(%d, %.20q) = %d, want %d", id, body, err, want)
	}
}

func wantDelete(t *testing.T, x *sift.Index, id int, want api.Errno) {
	t.Helper()
	if err := x.Delete(id); err != want {
		t.Errorf("Delete(%d) = %d, want %d", id, err, want)
	}
}

func wantLen(t *testing.T, x *sift.Index, want int) {
	t.Helper()
	if count, err := x.Len(); count != want || err != api.OK {
		t.Errorf("Len() = %d, %d, want %d", count, err, want)
	}
}

func wantFlush(t *testing.T, x *sift.Index, want bool) {
	t.Helper()
	if flushed, err := x.Flush(); flushed != want || err != api.OK {
		t.Errorf("Flush() = %v, %d, want %v", flushed, err, want)
	}
}

func wantOpen(t *testing.T, x *sift.Index, want int) {
	t.Helper()
	if reader, err := x.Open(); reader != want || err != api.OK {
		t.Errorf("Open() = %d, %d, want %d", reader, err, want)
	}
}

func wantClose(t *testing.T, x *sift.Index, reader int, want api.Errno) {
	t.Helper()
	if err := x.Close(reader); err != want {
		t.Errorf("Close(%d) = %d, want %d", reader, err, want)
	}
}

// wantSegments holds numbers, docs and dead docs of all segments against a text.
func wantSegments(t *testing.T, x *sift.Index, want string) {
	t.Helper()
	list, err := x.Segments()
	var got []string
	for _, s := range list {
		got = append(got, fmt.Sprintf("%d:%d-%d", s.Number, s.Docs, s.Dead))
	}
	if err != api.OK || strings.Join(got, " ") != want {
		t.Errorf("Segments() = %v, %d, want %s", got, err, want)
	}
}

// wantIds asks for all that fits.
func wantIds(t *testing.T, x *sift.Index, reader int, query string, want ...int) {
	t.Helper()
	wantFound(t, x, reader, query, -1, 50, len(want), want...)
}

func wantFound(t *testing.T, x *sift.Index, reader int, query string, after, limit, total int, want ...int) {
	t.Helper()
	found, err := x.Search(reader, query, after, limit)
	if err != api.OK || !slices.Equal(found.Ids, want) || found.Total != total {
		t.Errorf("Search(%d, %q, %d, %d) = %v, %d, want %v, %d", reader, query, after, limit, found, err, want, total)
	}
}

func wantNoSearch(t *testing.T, x *sift.Index, reader int, query string, limit int, want api.Errno) {
	t.Helper()
	found, err := x.Search(reader, query, 0, limit)
	if err != want || found.Ids != nil || found.Total != 0 {
		t.Errorf("Search(%d, %.20q, 0, %d) = %v, %d, want nothing, %d", reader, query, limit, found, err, want)
	}
}

func TestP6Settings(t *testing.T) {
	const least, most = -1 << 63, 1<<63 - 1
	for _, buffer := range []int{least, -1, 0, 1, 2, 7, 8, 9, most} {
		for _, factor := range []int{least, -1, 0, 1, 2, 3, 4, 5, most} {
			mayBe := 1 <= buffer && buffer <= 8 && 2 <= factor && factor <= 4
			x, err := sift.New(api.Config{Buffer: buffer, Factor: factor})
			if mayBe && (x == nil || err != api.OK) || !mayBe && (x != nil || err != api.ErrConfig) {
				t.Errorf("New(%d, %d) = %v, %d", buffer, factor, x, err)
			}
		}
	}
}

func TestP6Empty(t *testing.T) {
	x := newIndex(t, 1, 2)
	wantLen(t, x, 0)
	wantSegments(t, x, "")
	for reader := range 4 {
		wantClose(t, x, reader, api.ErrReader)
	}
	wantFlush(t, x, false)
	wantSegments(t, x, "")
	wantOpen(t, x, 0)
	wantSegments(t, x, "")
	wantIds(t, x, 0, "a|!a")
}

func TestP6TextsAndNumbers(t *testing.T) {
	x := newIndex(t, 2, 2)
	wantAdd(t, x, 3, "a", api.OK)
	wantLen(t, x, 1)
	wantAdd(t, x, 3, "b", api.OK)
	wantLen(t, x, 1)
	wantAdd(t, x, 4, "", api.OK)
	wantLen(t, x, 2)
	wantSegments(t, x, "0:2-0")
	wantDelete(t, x, 3, api.OK)
	wantLen(t, x, 1)
	wantAdd(t, x, 3, "c", api.OK)
	wantLen(t, x, 2)
	wantDelete(t, x, 3, api.OK)
	wantDelete(t, x, 4, api.OK)
	wantLen(t, x, 0)
	wantFlush(t, x, false)
	wantAdd(t, x, 3, "d", api.OK)
	wantFlush(t, x, true)
	wantSegments(t, x, "0:2-2 1:1-0")
}

func TestP7Errors(t *testing.T) {
	x := newIndex(t, 8, 2)
	long, longest := strings.Repeat("a", 121), strings.Repeat("b ", 60)
	for _, id := range []int{-1 << 63, -1, 100000, 1<<63 - 1} {
		wantAdd(t, x, id, "a", api.ErrId)
		wantAdd(t, x, id, long, api.ErrId)
		wantDelete(t, x, id, api.ErrId)
	}
	wantAdd(t, x, 0, long, api.ErrLong)
	wantAdd(t, x, 0, strings.Repeat("\xff", 1<<20), api.ErrLong)
	wantDelete(t, x, 0, api.ErrNone)
	wantLen(t, x, 0)
	wantAdd(t, x, 0, longest, api.OK)
	wantAdd(t, x, 99999, "a", api.OK)
	wantAdd(t, x, 0, long, api.ErrLong)
	wantLen(t, x, 2)
	wantOpen(t, x, 0)
	wantIds(t, x, 0, "b", 0)
	wantIds(t, x, 0, "!b", 99999)
	wantDelete(t, x, 0, api.OK)
	wantDelete(t, x, 0, api.ErrNone)
	wantDelete(t, x, 99999, api.OK)
	wantDelete(t, x, 99999, api.ErrNone)
}

func TestP7Full(t *testing.T) {
	x := newIndex(t, 8, 2)
	for id := range 60 {
		wantAdd(t, x, id, "a", api.OK)
	}
	before, _ := x.Segments()
	wantAdd(t, x, 60, "b", api.ErrFull)
	wantAdd(t, x, 60, strings.Repeat("b", 121), api.ErrLong)
	wantAdd(t, x, -1, "b", api.ErrId)
	if after, _ := x.Segments(); !slices.Equal(before, after) {
		t.Errorf("refused texts made of %v %v", before, after)
	}
	wantLen(t, x, 60)
	wantAdd(t, x, 59, "gathered still", api.OK)
	wantAdd(t, x, 0, "in a segment", api.OK)
	wantLen(t, x, 60)
	wantAdd(t, x, 60, "b", api.ErrFull)
	wantDelete(t, x, 0, api.OK)
	wantAdd(t, x, 60, "b", api.OK)
	wantAdd(t, x, 0, "b", api.ErrFull)
	wantDelete(t, x, 1, api.OK)
	wantAdd(t, x, 0, "b", api.OK)
	wantAdd(t, x, 1, "b", api.ErrFull)
	wantLen(t, x, 60)
}

// The text that had the id goes: from the gathered ones, or it is dead in its segment.
func TestP7InTheirPlace(t *testing.T) {
	x := newIndex(t, 3, 2)
	wantAdd(t, x, 5, "a", api.OK)
	wantAdd(t, x, 5, "b", api.OK)
	wantAdd(t, x, 5, "c", api.OK)
	wantSegments(t, x, "")
	wantAdd(t, x, 1, "c", api.OK)
	wantDelete(t, x, 1, api.OK)
	wantAdd(t, x, 7, "c", api.OK)
	wantSegments(t, x, "")
	wantAdd(t, x, 6, "d", api.OK)
	wantSegments(t, x, "0:3-0")
	wantAdd(t, x, 6, "e", api.OK)
	wantSegments(t, x, "0:3-1")
	wantAdd(t, x, 6, "f", api.OK)
	wantSegments(t, x, "0:3-1")
	wantDelete(t, x, 6, api.OK)
	wantSegments(t, x, "0:3-1")
	wantDelete(t, x, 5, api.OK)
	wantSegments(t, x, "0:3-2")
	wantOpen(t, x, 0)
	wantIds(t, x, 0, "a|!a", 7)
	wantIds(t, x, 0, "c", 7)
}

func TestP7Buffer(t *testing.T) {
	for buffer := 1; buffer <= 8; buffer++ {
		x := newIndex(t, buffer, 2)
		for count := 1; count <= 3*buffer; count++ {
			wantAdd(t, x, 100-count, "a", api.OK)
			if list, _ := x.Segments(); len(list) != count/buffer {
				t.Errorf("Buffer %d, %d texts: Segments() = %v", buffer, count, list)
			}
		}
	}
}

func TestP8Flush(t *testing.T) {
	x := newIndex(t, 8, 2)
	wantFlush(t, x, false)
	wantAdd(t, x, 9, "a", api.OK)
	wantAdd(t, x, 2, "b", api.OK)
	wantFlush(t, x, true)
	wantFlush(t, x, false)
	wantSegments(t, x, "0:2-0")
	wantAdd(t, x, 9, "c", api.OK)
	wantFlush(t, x, true)
	wantSegments(t, x, "0:2-1 1:1-0")
	wantAdd(t, x, 1, "c", api.OK)
	wantDelete(t, x, 1, api.OK)
	wantFlush(t, x, false)
	wantSegments(t, x, "0:2-1 1:1-0")
}

func TestP8Segments(t *testing.T) {
	x := newIndex(t, 2, 2)
	wantAdd(t, x, 7, "b a b", api.OK)
	wantAdd(t, x, 3, "a", api.OK)
	wantAdd(t, x, 300, "", api.OK)
	wantAdd(t, x, 200, "?!", api.OK)
	wantAdd(t, x, 200, "Ab ac, BB", api.OK)
	wantDelete(t, x, 7, api.OK)
	wantFlush(t, x, true)
	list, err := x.Segments()
	if want := []api.Segment{
		{Number: 0, Docs: 2, Dead: 1, Terms: 2, States: 2, Bytes: 25},
		{Number: 1, Docs: 2, Dead: 1, Terms: 0, States: 0, Bytes: 10},
		{Number: 2, Docs: 1, Dead: 0, Terms: 3, States: 4, Bytes: 30},
	}; err != api.OK || !slices.Equal(list, want) {
		t.Errorf("Segments() = %+v, %d, want %+v", list, err, want)
	}
}

func TestP8States(t *testing.T) {
	for _, c := range []struct {
		body   string
		states int
	}{
		{"", 0}, {"a", 2}, {"a a a", 2}, {"ab ac bb", 4}, {"a ab", 3}, {"abcdefgh", 9}, {"0 9 a z", 2},
		{"a1 z1", 3}, {"a1 z2", 4}, {"a b ab", 3}, {"a b aa ba", 3}, {"ab b", 3}, {"ab abb abbb", 5},
		{"tap taps top tops", 5}, {"a aa aaa aaaa", 5}, {"aa ab ba bb", 3}, {"xa xb ya yb ya1", 5},
	} {
		x := newIndex(t, 1, 2)
		wantAdd(t, x, 0, c.body, api.OK)
		if list, err := x.Segments(); err != api.OK || len(list) != 1 || list[0].States != c.states {
			t.Errorf("the segment of %q: %+v, %d, want %d states", c.body, list, err, c.states)
		}
	}
}

// Terms and states count the words of dead docs too.
func TestP8DeadWords(t *testing.T) {
	x := newIndex(t, 2, 2)
	wantAdd(t, x, 1, "red fox", api.OK)
	wantAdd(t, x, 2, "hen", api.OK)
	before, _ := x.Segments()
	wantDelete(t, x, 1, api.OK)
	wantDelete(t, x, 2, api.OK)
	after, _ := x.Segments()
	before[0].Dead = 2
	if !slices.Equal(before, after) {
		t.Errorf("Segments() = %+v, want %+v", after, before)
	}
}

func TestP9Numbers(t *testing.T) {
	x := newIndex(t, 8, 2)
	for reader := range 4 {
		wantOpen(t, x, reader)
	}
	wantAdd(t, x, 1, "a", api.OK)
	if reader, err := x.Open(); reader != 0 || err != api.ErrFull {
		t.Errorf("a fifth Open() = %d, %d, want 0, ErrFull", reader, err)
	}
	wantSegments(t, x, "")
	for _, reader := range []int{-1 << 63, -1, 4, 5, 1<<63 - 1} {
		wantClose(t, x, reader, api.ErrReader)
	}
	wantClose(t, x, 3, api.OK)
	wantClose(t, x, 1, api.OK)
	wantClose(t, x, 1, api.ErrReader)
	wantOpen(t, x, 1)
	wantSegments(t, x, "0:1-0")
	wantClose(t, x, 0, api.OK)
	wantOpen(t, x, 0)
	wantOpen(t, x, 3)
	wantIds(t, x, 1, "a", 1)
	wantIds(t, x, 2, "a")
}

// A view stays as it is, whatever comes and goes, and whoever else opens and closes.
func TestP9Views(t *testing.T) {
	x := newIndex(t, 2, 2)
	wantAdd(t, x, 1, "red", api.OK)
	wantAdd(t, x, 2, "red", api.OK)
	wantAdd(t, x, 3, "red", api.OK)
	wantOpen(t, x, 0)
	wantDelete(t, x, 1, api.OK)
	wantAdd(t, x, 3, "blue", api.OK)
	wantOpen(t, x, 1)
	wantAdd(t, x, 4, "red", api.OK)
	wantDelete(t, x, 2, api.OK)
	wantDelete(t, x, 3, api.OK)
	wantOpen(t, x, 2)
	for range 2 {
		wantIds(t, x, 0, "red", 1, 2, 3)
		wantIds(t, x, 0, "!red")
		wantIds(t, x, 0, "blue")
		wantIds(t, x, 1, "red", 2)
		wantIds(t, x, 1, "blue", 3)
		wantIds(t, x, 2, "red", 4)
		wantIds(t, x, 2, "!red")
		wantFlush(t, x, false)
	}
	wantClose(t, x, 1, api.OK)
	wantIds(t, x, 0, "red", 1, 2, 3)
	wantNoSearch(t, x, 1, "red", 1, api.ErrReader)
	wantOpen(t, x, 1)
	wantIds(t, x, 1, "red", 4)
}

func TestP10Examples(t *testing.T) {
	x := newIndex(t, 2, 2)
	wantAdd(t, x, 5, "red fox", api.OK)
	wantAdd(t, x, 2, "red hen", api.OK)
	wantAdd(t, x, 9, "Fox", api.OK)
	wantOpen(t, x, 0)
	wantIds(t, x, 0, "red", 2, 5)
	wantIds(t, x, 0, "fox", 5, 9)
	wantIds(t, x, 0, "!fox", 2)
	wantIds(t, x, 0, `"red fox"|hen`, 2, 5)
	wantIds(t, x, 0, "f*&!red", 9)
	wantFound(t, x, 0, "red", 2, 1, 2, 5)
	wantDelete(t, x, 5, api.OK)
	wantAdd(t, x, 9, "hen", api.OK)
	wantIds(t, x, 0, "fox", 5, 9)
	wantSegments(t, x, "0:2-1 1:1-1")
	wantFlush(t, x, true)
	wantOpen(t, x, 1)
	wantIds(t, x, 1, "fox")
	wantIds(t, x, 1, "hen", 2, 9)
}

func TestP10Errors(t *testing.T) {
	x := newIndex(t, 2, 2)
	long := strings.Repeat("A", 61)
	for _, reader := range []int{-1 << 63, -1, 0, 3, 4, 1<<63 - 1} {
		wantNoSearch(t, x, reader, long, 0, api.ErrReader)
		wantNoSearch(t, x, reader, "a", 1, api.ErrReader)
	}
	wantAdd(t, x, 1, "a", api.OK)
	wantOpen(t, x, 0)
	wantNoSearch(t, x, 1, "a", 1, api.ErrReader)
	wantNoSearch(t, x, 0, long, 0, api.ErrLong)
	wantNoSearch(t, x, 0, long, 1, api.ErrLong)
	for _, query := range []string{"", "A", "a&", `"a`, "!!!!!!a", "a ", " a", "abcdefghi"} {
		wantNoSearch(t, x, 0, query, 0, api.ErrQuery)
		wantNoSearch(t, x, 0, query, 1, api.ErrQuery)
	}
	for _, limit := range []int{-1 << 63, -1, 0, 51, 1<<63 - 1} {
		wantNoSearch(t, x, 0, "a", limit, api.ErrArg)
	}
	wantIds(t, x, 0, "a", 1)
}

func TestP10AfterAndLimit(t *testing.T) {
	x := newIndex(t, 7, 2)
	for _, id := range []int{99999, 0, 40, 20, 30, 10, 50, 60, 25} {
		wantAdd(t, x, id, "a", api.OK)
	}
	wantAdd(t, x, 35, "b", api.OK)
	wantOpen(t, x, 0)
	const least, most = -1 << 63, 1<<63 - 1
	wantFound(t, x, 0, "a", least, 50, 9, 0, 10, 20, 25, 30, 40, 50, 60, 99999)
	wantFound(t, x, 0, "a", -1, 3, 9, 0, 10, 20)
	wantFound(t, x, 0, "a", 0, 3, 9, 10, 20, 25)
	wantFound(t, x, 0, "a", 24, 1, 9, 25)
	wantFound(t, x, 0, "a", 25, 2, 9, 30, 40)
	wantFound(t, x, 0, "a", 35, 2, 9, 40, 50)
	wantFound(t, x, 0, "a", 60, 50, 9, 99999)
	wantFound(t, x, 0, "a", 99998, 50, 9, 99999)
	wantFound(t, x, 0, "a", 99999, 50, 9)
	wantFound(t, x, 0, "a", most, 50, 9)
	wantFound(t, x, 0, "b", 0, 50, 1, 35)
	wantFound(t, x, 0, "z", 0, 50, 0)
}

func TestP10MostIds(t *testing.T) {
	x := newIndex(t, 1, 2)
	var ids []int
	for i := range 60 {
		wantAdd(t, x, 59-i, "a", api.OK)
		ids = append(ids, i)
	}
	wantOpen(t, x, 0)
	wantFound(t, x, 0, "a", -1, 50, 60, ids[:50]...)
	wantFound(t, x, 0, "a", -1, 49, 60, ids[:49]...)
	wantFound(t, x, 0, "a", 49, 50, 60, ids[50:]...)
}

func TestP10Queries(t *testing.T) {
	x := newIndex(t, 3, 2)
	for id, body := range []string{"a b c", "b a", "a b a b c", "", "ab abc", "abcdefghijk", "abcdefgh z", "9 a"} {
		wantAdd(t, x, id, body, api.OK)
	}
	wantOpen(t, x, 0)
	for _, c := range []struct {
		query string
		want  []int
	}{
		{"a", []int{0, 1, 2, 7}}, {"a*", []int{0, 1, 2, 4, 5, 6, 7}}, {"ab*", []int{4, 5, 6}}, {"abc*", []int{4, 5, 6}}, {"abcd*", []int{5, 6}},
		{"abcdefgh", []int{5, 6}}, {"abcdefgh*", []int{5, 6}}, {"ab", []int{4}}, {"abcd", nil}, {"9*", []int{7}}, {"0", nil}, {"c*", []int{0, 2}}, {"z9*", nil},
		{`"a b"`, []int{0, 2}}, {`"b a"`, []int{1, 2}}, {`"a b c"`, []int{0, 2}}, {`"b a b c"`, []int{2}}, {`"a b a b c"`, []int{2}}, {`"a b a b c a"`, nil},
		{`"a a"`, nil}, {`"c"`, []int{0, 2}}, {`"9 a"`, []int{7}}, {`"a 9"`, nil}, {`"a z"`, nil}, {`"c a"`, nil}, {`"ab abc"`, []int{4}}, {`"a abc"`, nil},
		{"!a", []int{3, 4, 5, 6}}, {"!!a", []int{0, 1, 2, 7}}, {"!!!!!a", []int{3, 4, 5, 6}}, {"!zz", []int{0, 1, 2, 3, 4, 5, 6, 7}}, {"a&!a", nil},
		{"a&c", []int{0, 2}}, {"a|z", []int{0, 1, 2, 6, 7}}, {"z|a&c", []int{0, 2, 6}}, {"(z|a)&c", []int{0, 2}}, {"c&(z|a)", []int{0, 2}}, {"!a&c|z", []int{6}}, {"!(a&c)&a", []int{1, 7}},
		{"!(a|ab*)", []int{3}}, {"9|z|ab", []int{4, 6, 7}}, {"a&b&c", []int{0, 2}}, {`!"a b"&a`, []int{1, 7}}, {"!a*", []int{3}}, {"(((((a)))))", []int{0, 1, 2, 7}},
	} {
		wantIds(t, x, 0, c.query, c.want...)
	}
}

// Words of different docs do not follow one another, nor do those of different segments
// make one text fit.
func TestP10OneText(t *testing.T) {
	for buffer := 1; buffer <= 3; buffer++ {
		x := newIndex(t, buffer, 2)
		wantAdd(t, x, 1, "a b", api.OK)
		wantAdd(t, x, 2, "c d", api.OK)
		wantAdd(t, x, 3, "b c", api.OK)
		wantOpen(t, x, 0)
		wantIds(t, x, 0, `"b c"`, 3)
		wantIds(t, x, 0, "a&c")
		wantIds(t, x, 0, "b&c", 3)
		wantIds(t, x, 0, `"d b"`)
	}
}

// However the goroutines run, the answer is the same, and none of them goes on.
func TestP10Goroutines(t *testing.T) {
	x := newIndex(t, 1, 2)
	for id := range 40 {
		wantAdd(t, x, (id*7)%40, fmt.Sprintf("a w%d", id%3), api.OK)
	}
	wantOpen(t, x, 0)
	want, _ := x.Search(0, "a&!w1", -1, 50)
	before := runtime.NumGoroutine()
	for _, count := range []int{1, 2, 4, 8} {
		old := runtime.GOMAXPROCS(count)
		for range 200 {
			if found, err := x.Search(0, "a&!w1", -1, 50); err != api.OK || !slices.Equal(found.Ids, want.Ids) || found.Total != want.Total {
				t.Errorf("Search = %v, %d, want %v", found, err, want)
			}
		}
		runtime.GOMAXPROCS(old)
	}
	for wait := 0; runtime.NumGoroutine() > before; wait++ {
		if wait == 1000 {
			t.Fatalf("%d goroutines, %d before", runtime.NumGoroutine(), before)
		}
		time.Sleep(time.Millisecond)
	}
}

// Whoever writes all over what an index gave, the spare room too, changes no later answer.
func TestP2IndexLists(t *testing.T) {
	x := newIndex(t, 2, 2)
	for id := range 9 {
		wantAdd(t, x, id, "a b", api.OK)
	}
	wantOpen(t, x, 0)
	first, _ := x.Search(0, "a", -1, 4)
	segments, _ := x.Segments()
	for range 2 {
		found, _ := x.Search(0, "a", -1, 4)
		list, _ := x.Segments()
		if !slices.Equal(found.Ids, []int{0, 1, 2, 3}) || !slices.Equal(list, segments) {
			t.Errorf("Search = %v, Segments = %v", found, list)
		}
		clear(found.Ids[:cap(found.Ids)])
		clear(list[:cap(list)])
	}
	if !slices.Equal(first.Ids, []int{0, 1, 2, 3}) {
		t.Errorf("an earlier answer became %v", first)
	}
}
