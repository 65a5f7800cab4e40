package commit

import (
	"sift/api"
	"sift/set"
	"sift/wire"
)

const (
	// mark is what the file of a commit begins with.
	mark        = "C"
	docsPerByte = 8
)

// File gives the file of a commit.
func (c Commit) File() []byte {
	var w wire.Writer
	w.Text(mark)
	w.Number(c.Number)
	w.Number(c.Next)
	w.Number(len(c.Segments))
	for _, s := range c.Segments {
		w.Number(s.Number)
		w.Number(s.Docs)
		for first := 0; first < s.Docs; first += docsPerByte {
			w.Byte(byte(s.Dead >> first))
		}
	}
	return w.Sealed()
}

// Read gives what a file tells, and whether it is the file of a commit whose own number and
// that of its next segment are at most most.
func Read(file []byte, most int) (Commit, bool) {
	r := wire.Unseal(file)
	if r.Text(len(mark)) != mark {
		r.Fail()
	}
	c := Commit{Number: r.Number(1, most), Next: r.Number(0, most)}
	c.Segments = readSegments(r, c.Next)
	if !r.Done() {
		return Commit{}, false
	}
	return c, true
}

// readSegments reads what is told of all segments, whose numbers must rise and be below next.
func readSegments(r *wire.Reader, next int) []Segment {
	var list []Segment
	least := 0
	// Each has a number of its own; and a count that is too great is not counted to its end.
	for range r.Number(0, next) {
		s := readSegment(r, least, next-1)
		if r.Failed() {
			return nil
		}
		list = append(list, s)
		least = s.Number + 1
	}
	return list
}

// readSegment reads what is told of a segment, whose number must be from least to most.
func readSegment(r *wire.Reader, least, most int) Segment {
	s := Segment{Number: r.Number(least, most), Docs: r.Number(0, api.MaxDocs)}
	for first := 0; first < s.Docs; first += docsPerByte {
		s.Dead |= set.Set(r.Byte()) << first
	}
	if s.Dead&^set.First(s.Docs) != 0 {
		r.Fail() // docs are dead that there are not
	}
	return s
}
