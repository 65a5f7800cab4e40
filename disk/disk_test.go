package disk

import (
	"bytes"
	"slices"
	"strings"
	"testing"
)

func wantNames(t *testing.T, d *Disk, want string) {
	t.Helper()
	if got := strings.Join(d.Names(), " "); got != want {
		t.Errorf("the files are %s, want %s", got, want)
	}
}

func TestLose(t *testing.T) {
	d := New()
	d.Write("b", []byte("1"))
	d.Write("a", []byte("2"))
	d.Sync("b")
	wantNames(t, d, "a b")
	d.Lose()
	wantNames(t, d, "b")
	d.Write("b", []byte("3"))
	d.Lose()
	wantNames(t, d, "")
}

// A file stays synced, or not, under its other name.
func TestRename(t *testing.T) {
	d := New()
	d.Write("t", []byte("1"))
	d.Sync("t")
	d.Rename("t", "c1")
	d.Write("t", []byte("2"))
	d.Rename("t", "c2")
	wantNames(t, d, "c1 c2")
	if file, found := d.Bytes("c2"); !found || string(file) != "2" {
		t.Errorf("c2 is %q, %v", file, found)
	}
	d.Lose()
	wantNames(t, d, "c1")
	if d.Has("t") || !d.Has("c1") {
		t.Errorf("the files are %q", d.Names())
	}
	d.Delete("c1")
	d.Delete("none")
	wantNames(t, d, "")
}

func TestOthers(t *testing.T) {
	d, ok := Of([]string{"s2", "c1", "s10", "t"}, make([][]byte, 4))
	if !ok {
		t.Fatal("there is no disk of four files")
	}
	wantNames(t, d, "c1 s10 s2 t")
	keep := []string{"s9", "s2", "c1"}
	if got := d.Others(keep); !slices.Equal(got, []string{"s10", "t"}) {
		t.Errorf("the others are %q", got)
	}
	if !slices.Equal(keep, []string{"s9", "s2", "c1"}) {
		t.Errorf("the names became %q", keep)
	}
	if got := d.Others(nil); len(got) != 4 {
		t.Errorf("but for none the others are %q", got)
	}
	d.Lose()
	wantNames(t, d, "c1 s10 s2 t")
}

func TestOfRefuses(t *testing.T) {
	for _, c := range []struct{ names, files int }{{0, 1}, {1, 0}, {2, 1}, {1, 2}, {2, 2}} {
		if d, ok := Of(make([]string, c.names), make([][]byte, c.files)); ok || d != nil {
			t.Errorf("there is a disk of %d names, all the same, and %d files", c.names, c.files)
		}
	}
}

// The bytes that come in stay the caller's, and those that come out are the caller's.
func TestOwnBytes(t *testing.T) {
	list := []byte("abc")
	d := New()
	d.Write("a", list)
	list[0] = 'x'
	for range 2 {
		file, found := d.Bytes("a")
		if !found || !bytes.Equal(file, []byte("abc")) {
			t.Errorf("the file is %q, %v", file, found)
		}
		clear(file[:cap(file)])
	}
	if file, found := d.Bytes("b"); found || file != nil {
		t.Errorf("a file that there is not is %q", file)
	}
}
