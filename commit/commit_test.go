package commit

import (
	"bytes"
	"math"
	"reflect"
	"slices"
	"testing"

	"sift/set"
	"sift/wire"
)

func sealed(text string) []byte {
	var w wire.Writer
	w.Text(text)
	return w.Sealed()
}

func TestFiles(t *testing.T) {
	for _, c := range []struct {
		commit Commit
		inner  string
		names  []string
	}{
		{Commit{Number: 1}, "C\x01\x00\x00", []string{"c1"}},
		{Commit{Number: 300, Next: 128}, "C\xac\x02\x80\x01\x00", []string{"c300"}},
		{Commit{2, 4, []Segment{{2, 2, 1}, {3, 1, 0}}}, "C\x02\x04\x02\x02\x02\x01\x03\x01\x00", []string{"c2", "s2", "s3"}},
		{Commit{1, 200, []Segment{{0, 0, 0}, {150, 9, 0x101}}}, "C\x01\xc8\x01\x02\x00\x00\x96\x01\x09\x01\x01", []string{"c1", "s0", "s150"}},
		{Commit{1, 1, []Segment{{0, 60, set.First(60)}}}, "C\x01\x01\x01\x00\x3c\xff\xff\xff\xff\xff\xff\xff\x0f", []string{"c1", "s0"}},
		{Commit{math.MaxInt, math.MaxInt, []Segment{{math.MaxInt - 1, 1, 1}}}, "C\xff\xff\xff\xff\xff\xff\xff\xff\x7f\xff\xff\xff\xff\xff\xff\xff\xff\x7f\x01\xfe\xff\xff\xff\xff\xff\xff\xff\x7f\x01\x01", []string{"c9223372036854775807", "s9223372036854775806"}},
	} {
		file := c.commit.File()
		if want := sealed(c.inner); !bytes.Equal(file, want) {
			t.Errorf("the file of %v is %v, want %v", c.commit, file, want)
		}
		if got, ok := Read(file, math.MaxInt); !ok || !reflect.DeepEqual(got, c.commit) {
			t.Errorf("%v is read as %v, %v", file, got, ok)
		}
		if got := c.commit.Names(); !slices.Equal(got, c.names) {
			t.Errorf("the files of %v are %q, want %q", c.commit, got, c.names)
		}
	}
}

func TestReadRefuses(t *testing.T) {
	for _, inner := range []string{
		"", "C", "S\x01\x00\x00", "C\x00\x00\x00", "C\x01\x00\x00\x00", "C\x01\x00\x01", "C\x01\x01\x01\x01\x01\x00", "C\x01\x01\x01\x00\x01",
		"C\x01\x01\x01\x00\x3d\x00\x00\x00\x00\x00\x00\x00\x00", "C\x01\x01\x01\x00\x3c\x00\x00\x00\x00\x00\x00\x00\x10", "C\x01\x01\x01\x00\x07\x80", "C\x01\x02\x02\x01\x00\x00\x00", "C\x01\x02\x02\x00\x00\x00\x00",
	} {
		if got, ok := Read(sealed(inner), math.MaxInt); ok || !reflect.DeepEqual(got, Commit{}) {
			t.Errorf("%q is read as %v, %v", inner, got, ok)
		}
	}
}

// Both the commit's number and that of the next segment are held against the bound.
func TestReadBound(t *testing.T) {
	for _, c := range []struct {
		number, next int
		ok           bool
	}{{5, 5, true}, {6, 5, false}, {5, 6, false}} {
		if _, ok := Read(Commit{Number: c.number, Next: c.next}.File(), 5); ok != c.ok {
			t.Errorf("the commit %d, next %d, is read within 5: %v", c.number, c.next, ok)
		}
	}
}
