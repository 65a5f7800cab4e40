package sift_test

import (
	"bytes"
	"math/rand"
	"reflect"
	"slices"
	"strings"
	"testing"

	"sift/api"
	"sift/sift"
)

// pair is an index and the model that it must answer like.
type pair struct {
	t      *testing.T
	index  *sift.Index
	model  *model
	random *rand.Rand
	ids    int // so many different ones are drawn
}

func (p *pair) id() int {
	switch p.random.Intn(40) {
	case 0:
		return []int{-1, 100000, 1<<63 - 1, -1 << 63}[p.random.Intn(4)]
	case 1:
		return 99999
	}
	return p.commonId()
}

func (p *pair) commonId() int {
	return spread(p.random.Intn(p.ids))
}

// spread makes small ids and great ones: how far the ids of a segment lie apart shows in
// its bytes.
func spread(id int) int {
	return id + id%2*50000
}

func (p *pair) body() string {
	if p.random.Intn(30) == 0 {
		return strings.Repeat("ab ", 40+p.random.Intn(2))
	}
	words := []string{"a", "b", "ab", "ba", "abc", "c1", "Abcdefgh", "abcdefghij", "9", ""}
	var list []string
	for range p.random.Intn(6) {
		list = append(list, words[p.random.Intn(len(words))])
	}
	return strings.Join(list, []string{" ", "; ", "\x00"}[p.random.Intn(3)])
}

func (p *pair) query() string {
	word := func() string { return []string{"a", "b", "ab", "abc", "c1", "abcdefgh", "z"}[p.random.Intn(7)] }
	var draw func(size, depth int) string
	draw = func(size, depth int) string {
		switch kind := p.random.Intn(9); {
		case kind < 2 && size > 0:
			return draw(size-1, depth) + "&" + draw(size-1, depth)
		case kind < 4 && size > 0:
			return draw(size-1, depth) + "|" + draw(size-1, depth)
		case kind < 5 && depth < 5:
			return "(" + draw(size, depth+1) + ")"
		case kind < 6:
			return word() + "*"
		case kind < 7:
			return `"` + word() + " " + word() + `"`
		case kind < 8:
			return `"` + word() + `"`
		}
		return strings.Repeat("!", p.random.Intn(2)*min(1, 5-depth)) + word()
	}
	if p.random.Intn(20) == 0 {
		return []string{"", "a&", "A", `"a`, strings.Repeat("a|", 30) + "a"}[p.random.Intn(5)]
	}
	return draw(2, 0)
}

// step does something to both, and holds what they answer against each other.
func (p *pair) step() {
	switch p.random.Intn(17) {
	case 0, 1, 2, 3, 4:
		id, body := p.id(), p.body()
		p.same("Add", p.index.Add(id, body), p.model.add(id, body))
	case 5, 6, 7:
		id := p.id()
		p.same("Delete", p.index.Delete(id), p.model.remove(id))
	case 8:
		flushed, err := p.index.Flush()
		p.same("Flush", flushed, p.model.flush())
		p.same("Flush", err, api.OK)
	case 9:
		reader, err := p.index.Open()
		wantReader, wantErr := p.model.open()
		p.same("Open", reader, wantReader)
		p.same("Open", err, wantErr)
	case 10:
		reader := p.random.Intn(6) - 1
		p.same("Close", p.index.Close(reader), p.model.close(reader))
	case 11:
		p.search(p.random.Intn(6)-1, []int{-1, 0, 51, 1 << 62}[p.random.Intn(4)])
	default:
		p.mergeStep()
	}
}

func (p *pair) mergeStep() {
	switch p.random.Intn(5) {
	case 0, 1:
		started, err := p.index.Start()
		want, wantErr := p.model.start()
		p.same("Start", started, want)
		p.same("Start", err, wantErr)
	case 2, 3:
		finished, err := p.index.Finish()
		p.same("Finish", finished, p.model.finish())
		p.same("Finish", err, api.OK)
	case 4:
		abandoned, err := p.index.Abandon()
		p.same("Abandon", abandoned, p.model.abandon())
		p.same("Abandon", err, api.OK)
	}
}

func (p *pair) commitStep() {
	switch p.random.Intn(9) {
	case 0, 1, 2:
		p.same("Commit", p.index.Commit(), p.model.commit())
	case 3, 4:
		n := []int{p.random.Intn(9), p.random.Intn(9), p.random.Intn(30), 1000, 1001, -1, 1 << 62}[p.random.Intn(7)]
		p.same("Break", p.index.Break(n), p.model.breakBehind(n))
	case 5, 6:
		p.same("Recover", p.index.Recover(), p.model.recover())
	default:
		p.load()
	}
}

// load makes an index of the files as they are now, and goes on with it or without it.
func (p *pair) load() {
	p.t.Helper()
	c := api.Config{Buffer: 1 + p.random.Intn(8), Factor: 2 + p.random.Intn(3)}
	names, files := filesOf(p.t, p.index)
	p.random.Shuffle(len(names), func(i, k int) {
		names[i], names[k] = names[k], names[i]
		files[i], files[k] = files[k], files[i]
	})
	x, err := sift.Load(c, names, files)
	if !p.model.mayBeLoaded() {
		p.same("Load", err, api.ErrForm)
		p.same("Load", x == nil, true)
		return
	}
	p.same("Load", err, api.OK)
	other := &pair{p.t, x, p.model.loaded(c), p.random, p.ids}
	other.look()
	for range p.random.Intn(4) {
		other.step()
	}
	p.same("Commit", other.index.Commit(), other.model.commit())
	other.look()
	p.look()
	if p.random.Intn(2) == 0 {
		*p = *other
	}
}

func (p *pair) search(reader, limit int) {
	p.t.Helper()
	query, after := p.query(), p.commonId()+p.random.Intn(3)-1
	found, err := p.index.Search(reader, query, after, limit)
	want, wantErr := p.model.search(reader, query, after, limit)
	if err != wantErr || found.Total != want.Total || !slices.Equal(found.Ids, want.Ids) {
		p.t.Fatalf("Search(%d, %q, %d, %d) = %v, %d, want %v, %d", reader, query, after, limit, found, err, want, wantErr)
	}
	if err != api.OK && found.Ids != nil {
		p.t.Fatalf("Search gives a list with the error %d", err)
	}
}

// look holds all that can be seen of both against each other.
func (p *pair) look() {
	p.t.Helper()
	p.lookAtFiles()
	if p.model.disk.down {
		wantDown(p.t, p.index)
		return
	}
	count, err := p.index.Len()
	p.same("Len", count, len(p.model.texts()))
	p.same("Len", err, api.OK)
	list, err := p.index.Segments()
	p.same("Segments", err, api.OK)
	if want := p.model.about(); !slices.Equal(list, want) {
		p.t.Fatalf("Segments = %+v, want %+v", list, want)
	}
	for reader := range p.model.readers {
		p.search(reader, 1+p.random.Intn(50))
	}
}

func (p *pair) lookAtFiles() {
	p.t.Helper()
	names, files := filesOf(p.t, p.index)
	if want := p.model.names(); !slices.Equal(names, want) {
		p.t.Fatalf("Files = %q, want %q", names, want)
	}
	for i, name := range names {
		if want := p.model.disk.files[name].bytes; !bytes.Equal(files[i], want) {
			p.t.Fatalf("File(%q) = %v, want %v", name, files[i], want)
		}
	}
}

func (p *pair) same(name string, got, want any) {
	p.t.Helper()
	if !reflect.DeepEqual(got, want) {
		p.t.Fatalf("%s = %v, want %v", name, got, want)
	}
}

func drawnPair(t *testing.T, random *rand.Rand) *pair {
	return pairOf(t, random, api.Config{Buffer: 1 + random.Intn(8), Factor: 2 + random.Intn(3)})
}

func pairOf(t *testing.T, random *rand.Rand, c api.Config) *pair {
	x := newIndex(t, c.Buffer, c.Factor)
	return &pair{t: t, index: x, model: newModel(c), random: random, ids: []int{6, 20, 100}[random.Intn(3)]}
}

// Whatever is done to an index, wrong inputs among it, it answers like the model.
func TestP6ToP12Drawn(t *testing.T) {
	random := rand.New(rand.NewSource(4))
	for range 100 {
		p := drawnPair(t, random)
		for range 120 {
			p.step()
			p.look()
		}
	}
}

// The same with so many texts that there is no more room for others.
func TestP7FullDrawn(t *testing.T) {
	random := rand.New(rand.NewSource(5))
	for range 10 {
		p := drawnPair(t, random)
		p.ids = 90
		for id := range 60 {
			p.same("Add", p.index.Add(spread(id), "a"), p.model.add(spread(id), "a"))
		}
		for range 60 {
			p.step()
			p.look()
		}
	}
}

// The same with so many merges of small segments that great ones are made, and merged too.
func TestP12MergesDrawn(t *testing.T) {
	random := rand.New(rand.NewSource(7))
	greatest := 0
	for range 60 {
		p := pairOf(t, random, api.Config{Buffer: 1 + random.Intn(2), Factor: 2 + random.Intn(3)})
		for range 150 {
			p.step()
			p.mergeStep()
			p.look()
		}
		for _, s := range p.model.segments {
			greatest = max(greatest, len(s.docs))
		}
	}
	if greatest < 16 {
		t.Errorf("the greatest segment has %d docs: too few for this test", greatest)
	}
}

// The same with commits, some of them broken off, and with indexes that are made of files.
func TestP13ToP17Drawn(t *testing.T) {
	random := rand.New(rand.NewSource(8))
	down, recovered, far := 0, 0, 0
	for range 150 {
		p := drawnPair(t, random)
		for range 80 {
			wasDown := p.model.disk.down
			if wasDown || random.Intn(3) == 0 {
				p.commitStep()
			} else {
				p.step()
			}
			p.look()
			if p.model.disk.down && !wasDown {
				down++
			}
			if wasDown && !p.model.disk.down && p.model.disk.last.number > 0 {
				recovered++
			}
		}
		far = max(far, p.model.disk.last.number)
	}
	if down < 100 || recovered < 100 || far < 10 {
		t.Errorf("went down %d times, came up from a commit %d times, came to the commit %d: too few for this test", down, recovered, far)
	}
}

// Indexes do not change one another: what is done to one in turns with others is answered
// like what is done to it alone.
func TestP2Indexes(t *testing.T) {
	random := rand.New(rand.NewSource(6))
	pairs := []*pair{drawnPair(t, random), drawnPair(t, random), drawnPair(t, random)}
	for range 600 {
		p := pairs[random.Intn(3)]
		if p.model.disk.down || random.Intn(4) == 0 {
			p.commitStep()
		} else {
			p.step()
		}
		for _, p := range pairs {
			p.look()
		}
	}
}
