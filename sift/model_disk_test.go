package sift_test

import (
	"errors"
	"fmt"
	"maps"
	"slices"
	"strings"

	"sift/api"
)

// modelDisk is what a model keeps for its commits.
type modelDisk struct {
	files map[string]modelFile
	last  modelCommit
	left  *int // steps till it goes down, if it does
	down  bool
}

type modelFile struct {
	bytes  []byte
	synced bool
}

// modelCommit is what there was when a commit was done: a copy, not the bytes of a file.
type modelCommit struct {
	number, next int
	segments     []*modelSegment
}

var errBroken = errors.New("the commit is broken off")

func (c modelCommit) names() []string {
	var list []string
	if c.number > 0 {
		list = append(list, fmt.Sprint("c", c.number))
	}
	for _, s := range c.segments {
		list = append(list, fmt.Sprint("s", s.number))
	}
	slices.Sort(list)
	return list
}

func (c modelCommit) copied() modelCommit {
	var list []*modelSegment
	for _, s := range c.segments {
		list = append(list, &modelSegment{s.number, s.docs, maps.Clone(s.dead)})
	}
	return modelCommit{c.number, c.next, list}
}

// file gives the file of a commit straight from the document's words.
func (c modelCommit) file() []byte {
	list := slices.Concat([]byte("C"), small(c.number), small(c.next), small(len(c.segments)))
	for _, s := range c.segments {
		list = slices.Concat(list, small(s.number), small(len(s.docs)))
		for some := range slices.Chunk(s.docs, 8) {
			bits := byte(0)
			for i, doc := range some {
				if s.dead[doc.Id] {
					bits |= 1 << i
				}
			}
			list = append(list, bits)
		}
	}
	return sealed(list...)
}

func (s *modelSegment) file() []byte {
	var docs []api.Doc
	for _, doc := range s.docs {
		docs = append(docs, api.Doc{Id: doc.Id, Body: strings.Join(doc.Words, " ")})
	}
	return fileOf(docs)
}

// names gives the names of all files.
func (m *model) names() []string {
	return slices.Sorted(maps.Keys(m.disk.files))
}

// breakBehind lets it go down behind so many steps.
func (m *model) breakBehind(n int) api.Errno {
	if m.disk.down {
		return api.ErrDown
	}
	if n < 0 || n > 1000 {
		return api.ErrArg
	}
	m.disk.left = &n
	return api.OK
}

func (m *model) commit() (err api.Errno) {
	if m.disk.down {
		return api.ErrDown
	}
	defer func() {
		if caught := recover(); caught == errBroken {
			err = api.ErrDown
		} else if caught != nil {
			panic(caught)
		}
	}()
	m.flush()
	now := modelCommit{m.disk.last.number + 1, m.next, m.segments}.copied()
	files := m.disk.files
	for _, s := range m.segments {
		name := fmt.Sprint("s", s.number)
		if _, there := files[name]; !there {
			m.tick()
			files[name] = modelFile{s.file(), false}
			m.tick()
			files[name] = modelFile{files[name].bytes, true}
		}
	}
	m.tick()
	files["t"] = modelFile{now.file(), false}
	m.tick()
	files["t"] = modelFile{files["t"].bytes, true}
	m.tick()
	files[fmt.Sprint("c", now.number)] = files["t"]
	delete(files, "t")
	m.disk.last = now
	for _, name := range m.names() {
		if !slices.Contains(now.names(), name) {
			m.tick()
			delete(files, name)
		}
	}
	return api.OK
}

// tick stands ahead of a step, and breaks the commit off if it is not done.
func (m *model) tick() {
	if m.disk.left == nil {
		return
	}
	if *m.disk.left > 0 {
		*m.disk.left--
		return
	}
	m.disk.left, m.disk.down = nil, true
	for _, name := range m.names() {
		if !m.disk.files[name].synced {
			delete(m.disk.files, name)
		}
	}
	panic(errBroken)
}

func (m *model) recover() api.Errno {
	if !m.disk.down {
		return api.ErrState
	}
	*m = *m.loaded(m.settings)
	return api.OK
}

// loaded gives the model of what there was when the last commit was done, with its files.
func (m *model) loaded(c api.Config) *model {
	then := m.disk.last.copied()
	made := newModel(c)
	made.next, made.segments = then.next, then.segments
	made.disk.last = m.disk.last
	for _, name := range then.names() {
		made.disk.files[name] = m.disk.files[name]
	}
	return made
}

// mayBeLoaded tells whether the files are just those of the last commit.
func (m *model) mayBeLoaded() bool {
	return m.disk.last.number > 0 && slices.Equal(m.names(), m.disk.last.names())
}
