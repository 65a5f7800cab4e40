package sift_test

import (
	"bytes"
	"math/rand"
	"slices"
	"strings"
	"testing"

	"sift/api"
	"sift/sift"
)

// sealed gives bytes with their sum behind them.
func sealed(list ...byte) []byte {
	a, b := 1, 0
	for _, c := range list {
		a = (a + int(c)) % 65521
		b = (b + a) % 65521
	}
	return append(slices.Clone(list), byte(b>>8), byte(b), byte(a>>8), byte(a))
}

func small(n int) []byte {
	if n < 128 {
		return []byte{byte(n)}
	}
	return append([]byte{byte(n%128 + 128)}, small(n/128)...)
}

func rising(list []int) []byte {
	var file []byte
	for i, n := range list {
		if i > 0 {
			n -= list[i-1] + 1
		}
		file = append(file, small(n)...)
	}
	return file
}

// fileOf makes the file of sorted docs straight from the document's words.
func fileOf(sorted []api.Doc) []byte {
	var ids []int
	var terms []string
	var texts [][]string
	for _, doc := range sorted {
		words, _ := sift.Words(doc.Body)
		ids = append(ids, doc.Id)
		texts = append(texts, words)
		terms = append(terms, words...)
	}
	slices.Sort(terms)
	terms = slices.Compact(terms)
	file := slices.Concat([]byte("S"), small(len(ids)), rising(ids), small(len(terms)))
	for _, term := range terms {
		var part []byte
		count, least := 0, 0
		for at, words := range texts {
			var places []int
			for place, word := range words {
				if word == term {
					places = append(places, place)
				}
			}
			if len(places) > 0 {
				part = slices.Concat(part, small(at-least), small(len(places)), rising(places))
				least = at + 1
				count++
			}
		}
		file = slices.Concat(file, small(len(term)), []byte(term), small(count), part)
	}
	return sealed(file...)
}

func TestP5PackExamples(t *testing.T) {
	for _, c := range []struct {
		docs []api.Doc
		want []byte
	}{
		{nil, sealed('S', 0, 0)},
		{[]api.Doc{}, sealed('S', 0, 0)},
		{[]api.Doc{{Id: 0}}, sealed('S', 1, 0, 0)},
		{[]api.Doc{{Id: 127}, {Id: 256}}, sealed('S', 2, 127, 128, 1, 0)},
		{[]api.Doc{{Id: 99999, Body: "?"}}, sealed('S', 1, 0x9f, 0x8d, 6, 0)},
		{[]api.Doc{{Id: 7, Body: "b a b"}, {Id: 3, Body: "a"}}, []byte{'S', 2, 3, 3, 2, 1, 'a', 2, 0, 1, 0, 0, 1, 1, 1, 'b', 1, 1, 2, 0, 1, 0x0f, 0xf8, 0x01, 0x2d}},
		{[]api.Doc{{Id: 1, Body: "AB a 9"}}, sealed('S', 1, 1, 3, 1, '9', 1, 0, 1, 2, 1, 'a', 1, 0, 1, 1, 2, 'a', 'b', 1, 0, 1, 0)},
		{[]api.Doc{{Id: 1, Body: "abcdefghi abcdefghj"}}, sealed('S', 1, 1, 1, 8, 'a', 'b', 'c', 'd', 'e', 'f', 'g', 'h', 1, 0, 2, 0, 0)},
	} {
		if got, err := sift.Pack(c.docs); err != api.OK || !bytes.Equal(got, c.want) {
			t.Errorf("Pack(%v) = %v, %d, want %v", c.docs, got, err, c.want)
		}
	}
}

func TestP5PackRefuses(t *testing.T) {
	long := strings.Repeat(" ", 121)
	full := make([]api.Doc, 61)
	for i := range full {
		full[i].Id = i
	}
	for _, c := range []struct {
		docs []api.Doc
		want api.Errno
	}{
		{full, api.ErrFull},
		{make([]api.Doc, 61), api.ErrFull},
		{append(slices.Clone(full), api.Doc{Id: -1, Body: long}), api.ErrFull},
		{[]api.Doc{{Id: -1}}, api.ErrId},
		{[]api.Doc{{Id: 100000}}, api.ErrId},
		{[]api.Doc{{Id: -1 << 63}}, api.ErrId},
		{[]api.Doc{{Id: 1<<63 - 1}}, api.ErrId},
		{[]api.Doc{{Id: 4}, {Id: 9}, {Id: 4}}, api.ErrId},
		{[]api.Doc{{Id: 1, Body: long}, {Id: 2}, {Id: 2}}, api.ErrId},
		{[]api.Doc{{Id: 1, Body: long}, {Id: -2}}, api.ErrId},
		{[]api.Doc{{Id: 1, Body: long}}, api.ErrLong},
		{[]api.Doc{{Id: 1}, {Id: 0, Body: strings.Repeat("a", 121)}}, api.ErrLong},
	} {
		if got, err := sift.Pack(c.docs); err != c.want || got != nil {
			t.Errorf("Pack of %d docs = %v, %d, want nil, %d", len(c.docs), got, err, c.want)
		}
	}
}

func randomDocs(random *rand.Rand) []api.Doc {
	docs := make([]api.Doc, random.Intn(8))
	if random.Intn(10) == 0 {
		docs = make([]api.Doc, 60)
	}
	step := []int{1, 3, api.MaxId / 60}[random.Intn(3)]
	id := -1
	for i := range docs {
		body := make([]byte, random.Intn(api.MaxBody+1))
		for k := range body {
			body[k] = "abcBC09  .:"[random.Intn(11)]
		}
		id += 1 + random.Intn(step)
		docs[i] = api.Doc{Id: id, Body: string(body)}
	}
	random.Shuffle(len(docs), func(i, k int) { docs[i], docs[k] = docs[k], docs[i] })
	return docs
}

// Whatever docs there are, in whatever order: the file is the one that the document
// tells, and reading it gives their ids and words.
func TestP5PackAndRead(t *testing.T) {
	random := rand.New(rand.NewSource(2))
	for range 300 {
		docs := randomDocs(random)
		sorted := slices.Clone(docs)
		slices.SortFunc(sorted, func(a, b api.Doc) int { return a.Id - b.Id })
		file, err := sift.Pack(docs)
		if want := fileOf(sorted); err != api.OK || !bytes.Equal(file, want) {
			t.Fatalf("Pack(%v) = %v, %d, want %v", docs, file, err, want)
		}
		texts, err := sift.Read(file)
		if err != api.OK || len(texts) != len(docs) {
			t.Fatalf("Read(%v) = %v, %d, want %v", file, texts, err, sorted)
		}
		for i, text := range texts {
			words, _ := sift.Words(sorted[i].Body)
			if text.Id != sorted[i].Id || !slices.Equal(text.Words, words) {
				t.Fatalf("Read(%v) has %v, want %v", file, text, sorted[i])
			}
		}
	}
}

func TestP5PackAtItsBounds(t *testing.T) {
	var docs []api.Doc
	for i := range 60 {
		docs = append(docs, api.Doc{Id: api.MaxId - i, Body: strings.Repeat("x ", 60)})
	}
	file, err := sift.Pack(docs)
	if err != api.OK {
		t.Fatalf("Pack of 60 docs: %d", err)
	}
	texts, err := sift.Read(file)
	if err != api.OK || len(texts) != 60 || texts[0].Id != 99940 || len(texts[59].Words) != 60 {
		t.Errorf("Read of 60 docs: %d docs, %d", len(texts), err)
	}
}

// shortWords gives many different words, the shortest ones first.
func shortWords() []string {
	list := []string{""}
	for at := 0; len(list) < 5000; at++ {
		for _, sign := range "0123456789abcdefghijklmnopqrstuvwxyz" {
			list = append(list, list[at]+string(sign))
		}
	}
	return list[1:]
}

// As many terms as docs can have.
func TestP5PackManyTerms(t *testing.T) {
	words := shortWords()
	var docs []api.Doc
	terms := 0
	for id := range 60 {
		body := words[terms]
		terms++
		for len(body)+1+len(words[terms]) <= api.MaxBody {
			body += " " + words[terms]
			terms++
		}
		docs = append(docs, api.Doc{Id: id, Body: body})
	}
	file, err := sift.Pack(docs)
	if err != api.OK || terms < 2000 || !bytes.Equal(file, fileOf(docs)) {
		t.Fatalf("Pack of %d terms: %d", terms, err)
	}
	texts, err := sift.Read(file)
	if err != api.OK || len(texts) != 60 {
		t.Fatalf("Read of %d terms: %d docs, %d", terms, len(texts), err)
	}
	for i, text := range texts {
		if got := strings.Join(text.Words, " "); got != docs[i].Body {
			t.Errorf("doc %d is read as %q, want %q", i, got, docs[i].Body)
		}
	}
}
