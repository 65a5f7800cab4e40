package sift_test

import (
	"bytes"
	"math/rand"
	"slices"
	"strings"
	"testing"

	"sift/api"
	"sift/sift"
)

func TestP5ReadRefuses(t *testing.T) {
	eight := []byte("abcdefgh")
	for name, file := range map[string][]byte{
		"nothing":                    nil,
		"too short for a sum":        {'S', 0, 0},
		"a sum alone":                {0, 0, 0, 1},
		"a wrong sum":                {'S', 0, 0, 0, 0, 0, 0},
		"another mark":               sealed('C', 0, 0),
		"no count of docs":           sealed('S'),
		"no count of terms":          sealed('S', 0),
		"too few ids":                sealed('S', 2, 0),
		"bytes behind":               sealed('S', 0, 0, 0),
		"bytes behind the sum":       append(sealed('S', 0, 0), 0),
		"a 0 of two bytes":           sealed('S', 0x80, 0, 0),
		"an id of a byte too many":   sealed('S', 1, 0x85, 0, 0),
		"an unended number":          sealed('S', 0, 0x80),
		"a number of eleven bytes":   sealed('S', 0x80, 0x80, 0x80, 0x80, 0x80, 0x80, 0x80, 0x80, 0x80, 0x80, 1, 0),
		"a number that wraps round":  sealed('S', 0x81, 0x80, 0x80, 0x80, 0x80, 0x80, 0x80, 0x80, 0x80, 2, 0, 0),
		"61 docs":                    sealed(append([]byte{'S', 61}, make([]byte, 62)...)...),
		"the id 100000":              sealed('S', 1, 0xa0, 0x8d, 6, 0),
		"a second id 100000":         sealed('S', 2, 0x9f, 0x8d, 6, 0, 0),
		"a term without docs":        sealed('S', 1, 0, 1, 1, 'a', 0),
		"a term and no docs":         sealed('S', 0, 1, 1, 'a', 1, 0, 1, 0),
		"a doc behind the last one":  sealed('S', 1, 0, 1, 1, 'a', 1, 1, 1, 0),
		"more docs than there are":   sealed('S', 1, 0, 1, 1, 'a', 2, 0, 1, 0, 0, 1, 0),
		"a word that stands nowhere": sealed('S', 1, 0, 1, 1, 'a', 1, 0, 0),
		"no word at place 0":         sealed('S', 1, 0, 1, 1, 'a', 1, 0, 1, 1),
		"no word at place 1":         sealed('S', 1, 0, 1, 1, 'a', 1, 0, 2, 0, 1),
		"two words at a place":       sealed('S', 1, 0, 2, 1, 'a', 1, 0, 1, 0, 1, 'b', 1, 0, 1, 0),
		"two at a place and a gap":   sealed('S', 1, 0, 2, 1, 'a', 1, 0, 2, 0, 1, 1, 'b', 1, 0, 1, 2),
		"a large letter":             sealed('S', 1, 0, 1, 1, 'A', 1, 0, 1, 0),
		"a blank":                    sealed('S', 1, 0, 1, 1, ' ', 1, 0, 1, 0),
		"a byte that is no letter":   sealed('S', 1, 0, 1, 2, 'a', 0xe9, 1, 0, 1, 0),
		"an empty word":              sealed('S', 1, 0, 1, 0, 1, 0, 1, 0),
		"a word of nine bytes":       sealed(slices.Concat([]byte{'S', 1, 0, 1, 9}, eight, []byte{'i', 1, 0, 1, 0})...),
		"a word cut off":             sealed('S', 1, 0, 1, 5, 'a', 'b'),
		"terms that fall":            sealed('S', 1, 0, 2, 1, 'b', 1, 0, 1, 0, 1, 'a', 1, 0, 1, 1),
		"a beginning behind":         sealed('S', 1, 0, 2, 2, 'a', 'b', 1, 0, 1, 0, 1, 'a', 1, 0, 1, 1),
		"a term twice":               sealed('S', 1, 0, 2, 1, 'a', 1, 0, 1, 0, 1, 'a', 1, 0, 1, 1),
		"fewer terms than told":      sealed('S', 1, 0, 2, 1, 'a', 1, 0, 1, 0),
		"more terms than told":       sealed('S', 1, 0, 1, 1, 'a', 1, 0, 1, 0, 1, 'b', 1, 0, 1, 1),
	} {
		if got, err := sift.Read(file); err != api.ErrForm || got != nil {
			t.Errorf("%s: Read(%v) = %v, %d, want nil, ErrForm", name, file, got, err)
		}
	}
}

// The words of a doc with a blank between each two may have 120 bytes, and not 121.
func TestP5ReadLength(t *testing.T) {
	repeated := func(word string, count int) []byte {
		head := []byte{'S', 1, 0, 1, byte(len(word))}
		return sealed(slices.Concat(head, []byte(word), []byte{1, 0, byte(count)}, make([]byte, count))...)
	}
	for _, c := range []struct {
		word  string
		count int
		want  api.Errno
	}{
		{"a", 60, api.OK}, {"a", 61, api.ErrForm}, {"a", 120, api.ErrForm},
		{"ab", 40, api.OK}, {"ab", 41, api.ErrForm},
		{"abcdefgh", 13, api.OK}, {"abcdefgh", 14, api.ErrForm},
		{"abcdefg", 15, api.OK}, {"abcdefg", 16, api.ErrForm},
	} {
		texts, err := sift.Read(repeated(c.word, c.count))
		if err != c.want || err == api.OK && len(texts[0].Words) != c.count {
			t.Errorf("Read of %d times %s = %v, %d, want %d", c.count, c.word, texts, err, c.want)
		}
	}
	exactly := sealed(slices.Concat([]byte{'S', 1, 0, 2, 1, 'a', 1, 0, 59}, make([]byte, 59), []byte{2, 'b', 'c', 1, 0, 1, 59})...)
	if _, err := sift.Read(exactly); err != api.OK {
		t.Errorf("Read of 120 bytes of words: %d", err)
	}
	above := sealed(slices.Concat([]byte{'S', 1, 0, 2, 1, 'a', 1, 0, 59}, make([]byte, 59), []byte{3, 'b', 'c', 'd', 1, 0, 1, 59})...)
	if _, err := sift.Read(above); err != api.ErrForm {
		t.Errorf("Read of 121 bytes of words: %d", err)
	}
}

// packedAnew packs the words that were read.
func packedAnew(texts []api.Text) ([]byte, api.Errno) {
	var docs []api.Doc
	for _, text := range texts {
		docs = append(docs, api.Doc{Id: text.Id, Body: strings.Join(text.Words, " ")})
	}
	return sift.Pack(docs)
}

func checkRead(t *testing.T, file []byte) {
	t.Helper()
	texts, err := sift.Read(file)
	if err == api.ErrForm && texts == nil {
		return
	}
	if err != api.OK {
		t.Fatalf("Read(%v) = %v, %d", file, texts, err)
	}
	if again, err := packedAnew(texts); err != api.OK || !bytes.Equal(again, file) {
		t.Fatalf("Read(%v) = %v, whose file is %v, %d", file, texts, again, err)
	}
}

// What is read is always the file of what comes out, however a file was spoiled.
func TestP5ReadSpoiled(t *testing.T) {
	random := rand.New(rand.NewSource(3))
	for range 400 {
		file, _ := sift.Pack(randomDocs(random))
		inner := file[:len(file)-4]
		for range 50 {
			spoiled := slices.Clone(inner)
			at := random.Intn(len(spoiled))
			switch random.Intn(4) {
			case 0:
				spoiled[at] = byte(random.Intn(256))
			case 1:
				spoiled[at] += byte(random.Intn(3)) - 1
			case 2:
				spoiled = slices.Insert(spoiled, at, byte(random.Intn(4)))
			case 3:
				spoiled = slices.Delete(spoiled, at, at+1)
			}
			checkRead(t, sealed(spoiled...))
		}
	}
}

// Each single bit counts, and each byte: the sum tells of all of them.
func TestP5ReadSum(t *testing.T) {
	file, _ := sift.Pack([]api.Doc{{Id: 7, Body: "b a b"}, {Id: 300, Body: "red fox"}})
	for at := range file {
		for bit := range 8 {
			spoiled := slices.Clone(file)
			spoiled[at] ^= 1 << bit
			if got, err := sift.Read(spoiled); err != api.ErrForm || got != nil {
				t.Errorf("bit %d of byte %d turned: Read = %v, %d", bit, at, got, err)
			}
		}
		if got, err := sift.Read(file[:at]); err != api.ErrForm || got != nil {
			t.Errorf("cut off at %d: Read = %v, %d", at, got, err)
		}
	}
}

func FuzzRead(f *testing.F) {
	f.Add([]byte{'S', 2, 3, 3, 2, 1, 'a', 2, 0, 1, 0, 0, 1, 1, 1, 'b', 1, 1, 2, 0, 1})
	f.Add([]byte{'S', 1, 0x9f, 0x8d, 6, 0})
	f.Fuzz(func(t *testing.T, inner []byte) { checkRead(t, sealed(inner...)) })
}
