// Package commit: what a commit tells, its file, and the names of the files that belong to it.
package commit

import (
	"strconv"

	"sift/set"
)

// Commit is what the file of a commit tells.
type Commit struct {
	Number   int
	Next     int       // the number of the next segment
	Segments []Segment // by their numbers
}

// Segment is what a commit tells of one.
type Segment struct {
	Number int
	Docs   int // how many it has
	Dead   set.Set
}

// Name gives the name of the file of a commit.
func Name(number int) string {
	return "c" + strconv.Itoa(number)
}

// SegmentName gives the name of the file of a segment.
func SegmentName(number int) string {
	return "s" + strconv.Itoa(number)
}

// Names gives the names of all files of a commit: its own and those of its segments.
func (c Commit) Names() []string {
	list := []string{Name(c.Number)}
	for _, s := range c.Segments {
		list = append(list, SegmentName(s.Number))
	}
	return list
}
