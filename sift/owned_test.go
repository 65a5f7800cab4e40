package sift_test

import (
	"bytes"
	"reflect"
	"slices"
	"strings"
	"sync"
	"testing"

	"sift/api"
	"sift/sift"
)

// Inputs that no one should hand in: each call ends, does not panic, and gives nothing with an error.
func TestP1WrongInputs(t *testing.T) {
	var strange []string
	for c := range 256 {
		for _, length := range []int{1, 2, 9, 59, 60, 61, 120, 121, 4096} {
			strange = append(strange, strings.Repeat(string([]byte{byte(c)}), length))
		}
	}
	for _, text := range strange {
		if list, err := sift.Words(text); err != api.OK && list != nil {
			t.Errorf("Words(%.20q) = %q, %d", text, list, err)
		}
		if err, place := sift.Check(text); err != api.ErrQuery && place != 0 || place < 0 || place > len(text) {
			t.Errorf("Check(%.20q) = %d, %d", text, err, place)
		}
		if file, err := sift.Pack([]api.Doc{{Id: len(text), Body: text}}); err != api.OK && file != nil {
			t.Errorf("Pack of %.20q = %v, %d", text, file, err)
		}
		if texts, err := sift.Read([]byte(text)); err != api.ErrForm || texts != nil {
			t.Errorf("Read(%.20q) = %v, %d", text, texts, err)
		}
		if texts, err := sift.Read(sealed([]byte("S" + text)...)); err != api.OK && texts != nil {
			t.Errorf("Read of S and %.20q = %v, %d", text, texts, err)
		}
	}
}

func TestP1EndsSoon(t *testing.T) {
	huge := bytes.Repeat([]byte{0xff, 0xff, 0xff, 0x7f}, 1<<20)
	if _, err := sift.Read(sealed(append([]byte{'S'}, huge...)...)); err != api.ErrForm {
		t.Errorf("Read of large numbers: %d", err)
	}
	if _, err := sift.Pack(make([]api.Doc, 1<<20)); err != api.ErrFull {
		t.Errorf("Pack of very many docs: %d", err)
	}
}

func TestP2HandedIn(t *testing.T) {
	room := []api.Doc{{Id: 9, Body: "b"}, {Id: 3, Body: "a"}, {Id: 77, Body: "behind"}, {Id: 1, Body: "too"}}
	before := slices.Clone(room)
	file, err := sift.Pack(room[:2])
	if err != api.OK || !reflect.DeepEqual(room, before) {
		t.Errorf("Pack made %v of %v, %d", room, before, err)
	}
	sift.Pack([]api.Doc{{Id: 5}, {Id: 5}})
	spare := append(slices.Clone(file), 1, 2, 3, 4)
	kept := slices.Clone(spare)
	texts, err := sift.Read(spare[:len(file)])
	if err != api.OK || !bytes.Equal(spare, kept) {
		t.Errorf("Read made %v of %v, %d", spare, kept, err)
	}
	clear(spare)
	if len(texts) != 2 || texts[0].Words[0] != "a" || texts[1].Words[0] != "b" {
		t.Errorf("Read kept the list that it was handed: %v", texts)
	}
}

// Whoever writes all over a list, its spare room too, changes no other list.
func TestP2ComingOut(t *testing.T) {
	docs := []api.Doc{{Id: 3, Body: "a b c a b"}, {Id: 5, Body: "a b c"}, {Id: 7}, {Id: 8, Body: "c"}}
	firstFile, _ := sift.Pack(docs)
	firstWords, _ := sift.Words("red fox, red hen")
	wantTexts, _ := sift.Read(firstFile)
	want := slices.Clone(firstFile)

	file, _ := sift.Pack(docs)
	clear(file[:cap(file)])
	list, _ := sift.Words("red fox, red hen")
	clear(list[:cap(list)])
	if !bytes.Equal(firstFile, want) || !slices.Equal(firstWords, []string{"red", "fox", "red", "hen"}) {
		t.Errorf("writing into one answer changed another: %v, %q", firstFile, firstWords)
	}
	for i := range wantTexts {
		texts, _ := sift.Read(firstFile)
		clear(texts[i].Words[:cap(texts[i].Words)])
		for k := range texts {
			if k != i && !slices.Equal(texts[k].Words, wantTexts[k].Words) {
				t.Errorf("writing into the words of text %d changed text %d: %q", i, k, texts[k].Words)
			}
		}
		clear(texts[:cap(texts)])
	}
	if again, _ := sift.Read(firstFile); !reflect.DeepEqual(again, wantTexts) {
		t.Errorf("Read answers %v after %v", again, wantTexts)
	}
}

// The answers hang on the arguments alone, whatever else is asked meanwhile.
func TestP2ArgumentsAlone(t *testing.T) {
	docs := []api.Doc{{Id: 12, Body: "one two three two"}, {Id: 4, Body: "two four"}}
	wantFile, _ := sift.Pack(docs)
	wantTexts, _ := sift.Read(wantFile)
	var all sync.WaitGroup
	for i := range 8 {
		all.Go(func() {
			for k := range 50 {
				sift.Pack([]api.Doc{{Id: i*1000 + k, Body: "other words"}})
				sift.Check("(((((a")
				file, _ := sift.Pack(docs)
				texts, _ := sift.Read(file)
				list, _ := sift.Words("One two")
				err, place := sift.Check("a&&b")
				if !bytes.Equal(file, wantFile) || !reflect.DeepEqual(texts, wantTexts) ||
					!slices.Equal(list, []string{"one", "two"}) || err != api.ErrQuery || place != 2 {
					t.Errorf("other answers: %v, %v, %q, %d, %d", file, texts, list, err, place)
				}
			}
		})
	}
	all.Wait()
}
