package sift

import (
	"math"

	"sift/api"
	"sift/commit"
	"sift/disk"
	"sift/pack"
	"sift/segment"
	"sift/wire"
)

// comeUp makes the index what its last commit tells: nothing, if there is none. The files of
// a commit can be read: they are such as Commit wrote, or as Load found right.
func (x *Index) comeUp() {
	var told commit.Commit
	if x.last > 0 {
		file, _ := x.files.Bytes(commit.Name(x.last))
		told, _ = commit.Read(file, math.MaxInt)
	}
	for _, name := range x.files.Others(told.Names()) {
		x.files.Delete(name)
	}
	if up, ok := restored(x.settings, x.files, told); ok {
		*x = *up
	}
}

// load gives the index of files, and whether these are the files of a commit.
func load(c api.Config, files *disk.Disk) (*Index, bool) {
	told, ok := commitOf(files)
	if !ok || len(files.Others(told.Names())) > 0 {
		return nil, false
	}
	return restored(c, files, told)
}

// commitOf gives the commit whose file is among some, and whether there is one. If they are
// the files of a commit, its own one is the first in the order, as others begin with s.
func commitOf(files *disk.Disk) (commit.Commit, bool) {
	names := files.Names()
	if len(names) == 0 {
		return commit.Commit{}, false
	}
	file, _ := files.Bytes(names[0])
	told, ok := commit.Read(file, wire.FourBytes)
	return told, ok && names[0] == commit.Name(told.Number)
}

// restored gives the index that a commit tells of, and whether it may be: whether all its
// segments are among the files, and its texts are of different ids and not too many.
func restored(c api.Config, files *disk.Disk, told commit.Commit) (*Index, bool) {
	x := indexOver(c, files)
	x.next, x.last = told.Next, told.Number
	texts := 0
	for _, s := range told.Segments {
		p, ok := readPart(files, s)
		if !ok {
			return nil, false
		}
		x.hold(p)
		texts += p.alive().Len()
	}
	if texts > len(x.homes) || texts > api.MaxDocs {
		return nil, false
	}
	return x, true
}

// readPart gives the part that a commit tells of, and whether its file is among some, and is
// as it must be.
func readPart(files *disk.Disk, told commit.Segment) (*part, bool) {
	file, found := files.Bytes(commit.SegmentName(told.Number))
	if !found {
		return nil, false
	}
	texts, ok := pack.Read(file)
	if !ok || len(texts) != told.Docs {
		return nil, false
	}
	return &part{segment.Of(told.Number, texts), told.Dead}, true
}
