package sift_test

import (
	"maps"
	"slices"
	"strings"

	"sift/api"
	"sift/sift"
)

// model is an index told straight from the document's words: lists that are gone through,
// and nothing kept that could be worked out.
type model struct {
	settings api.Config
	gathered map[int][]string
	segments []*modelSegment
	next     int
	readers  map[int]map[int][]string
	merging  []*modelSegment // none, if no merge is under way
	moves    []modelMove
	disk     modelDisk
}

// modelMove is a doc that a merge takes over from a segment.
type modelMove struct {
	from *modelSegment
	doc  api.Text
}

type modelSegment struct {
	number int
	docs   []api.Text
	dead   map[int]bool // by the ids
}

func newModel(c api.Config) *model {
	return &model{
		settings: c, gathered: map[int][]string{}, readers: map[int]map[int][]string{},
		disk: modelDisk{files: map[string]modelFile{}},
	}
}

// texts gives the words of all texts by their ids.
func (m *model) texts() map[int][]string {
	all := maps.Clone(m.gathered)
	for _, s := range m.segments {
		for _, doc := range s.docs {
			if !s.dead[doc.Id] {
				all[doc.Id] = doc.Words
			}
		}
	}
	return all
}

func (m *model) add(id int, body string) api.Errno {
	_, there := m.texts()[id]
	switch {
	case id < 0 || id > 99999:
		return api.ErrId
	case len(body) > 120:
		return api.ErrLong
	case !there && len(m.texts()) == 60:
		return api.ErrFull
	}
	m.drop(id)
	m.gathered[id], _ = sift.Words(body)
	if len(m.gathered) == m.settings.Buffer {
		m.flush()
	}
	return api.OK
}

func (m *model) remove(id int) api.Errno {
	if id < 0 || id > 99999 {
		return api.ErrId
	}
	if _, there := m.texts()[id]; !there {
		return api.ErrNone
	}
	m.drop(id)
	return api.OK
}

func (m *model) drop(id int) {
	delete(m.gathered, id)
	for _, s := range m.segments {
		for _, doc := range s.docs {
			if doc.Id == id {
				s.dead[id] = true
			}
		}
	}
}

func (m *model) flush() bool {
	if len(m.gathered) == 0 {
		return false
	}
	s := &modelSegment{number: m.next, dead: map[int]bool{}}
	for _, id := range slices.Sorted(maps.Keys(m.gathered)) {
		s.docs = append(s.docs, api.Text{Id: id, Words: m.gathered[id]})
	}
	m.segments = append(m.segments, s)
	m.gathered = map[int][]string{}
	m.next++
	return true
}

func (m *model) open() (int, api.Errno) {
	for reader := range 4 {
		if _, open := m.readers[reader]; !open {
			m.flush()
			m.readers[reader] = m.texts()
			return reader, api.OK
		}
	}
	return 0, api.ErrFull
}

func (m *model) close(reader int) api.Errno {
	if _, open := m.readers[reader]; !open {
		return api.ErrReader
	}
	delete(m.readers, reader)
	return api.OK
}

func (m *model) search(reader int, query string, after, limit int) (api.Found, api.Errno) {
	texts, open := m.readers[reader]
	if !open {
		return api.Found{}, api.ErrReader
	}
	if err, _ := sift.Check(query); err != api.OK {
		return api.Found{}, err
	}
	if limit < 1 || limit > 50 {
		return api.Found{}, api.ErrArg
	}
	var found api.Found
	for _, id := range slices.Sorted(maps.Keys(texts)) {
		if fits(query, texts[id]) {
			found.Total++
			if id > after && len(found.Ids) < limit {
				found.Ids = append(found.Ids, id)
			}
		}
	}
	return found, api.OK
}

// class gives the greatest power of Factor that is not above the number of docs: their order
// is that of the classes.
func (m *model) class(s *modelSegment) int {
	power := 1
	for power*m.settings.Factor <= len(s.docs) {
		power *= m.settings.Factor
	}
	return power
}

func (m *model) start() (bool, api.Errno) {
	if m.merging != nil {
		return false, api.ErrBusy
	}
	for class := range 61 {
		var list []*modelSegment
		for _, s := range m.segments {
			if m.class(s) == class && len(list) < m.settings.Factor {
				list = append(list, s)
			}
		}
		if len(list) == m.settings.Factor {
			m.begin(list)
			return true, api.OK
		}
	}
	return false, api.OK
}

func (m *model) begin(list []*modelSegment) {
	m.merging = list
	for _, s := range list {
		for _, doc := range s.docs {
			if !s.dead[doc.Id] {
				m.moves = append(m.moves, modelMove{s, doc})
			}
		}
	}
}

func (m *model) finish() bool {
	if m.merging == nil {
		return false
	}
	var left []*modelSegment
	for _, s := range m.segments {
		if !slices.Contains(m.merging, s) {
			left = append(left, s)
		}
	}
	m.segments = left
	if len(m.moves) > 0 {
		s := &modelSegment{number: m.next, dead: map[int]bool{}}
		for _, move := range m.moves {
			s.docs = append(s.docs, move.doc)
			if move.from.dead[move.doc.Id] {
				s.dead[move.doc.Id] = true
			}
		}
		slices.SortFunc(s.docs, func(a, b api.Text) int { return a.Id - b.Id })
		m.segments = append(m.segments, s)
		m.next++
	}
	return m.abandon()
}

func (m *model) abandon() bool {
	wasUnderWay := m.merging != nil
	m.merging, m.moves = nil, nil
	return wasUnderWay
}

func (m *model) about() []api.Segment {
	var list []api.Segment
	for _, s := range m.segments {
		var docs []api.Doc
		terms := map[string]bool{}
		for _, doc := range s.docs {
			docs = append(docs, api.Doc{Id: doc.Id, Body: strings.Join(doc.Words, " ")})
			for _, word := range doc.Words {
				terms[word] = true
			}
		}
		list = append(list, api.Segment{
			Number: s.number, Docs: len(s.docs), Dead: len(s.dead),
			Terms: len(terms), States: statesOf(terms), Bytes: len(fileOf(docs)),
		})
	}
	return list
}

// statesOf counts the different sets of ends, each written as one text.
func statesOf(terms map[string]bool) int {
	ends := map[string][]string{}
	for term := range terms {
		for i := range len(term) + 1 {
			ends[term[:i]] = append(ends[term[:i]], term[i:])
		}
	}
	sets := map[string]bool{}
	for _, list := range ends {
		slices.Sort(list)
		sets[strings.Join(list, " ")+"."] = true
	}
	return len(sets)
}

// fits tells whether a text fits a query, by cutting the query at its outermost signs.
func fits(query string, words []string) bool {
	if parts := cutOutside(query, '|'); len(parts) > 1 {
		return slices.ContainsFunc(parts, func(part string) bool { return fits(part, words) })
	}
	if parts := cutOutside(query, '&'); len(parts) > 1 {
		return !slices.ContainsFunc(parts, func(part string) bool { return !fits(part, words) })
	}
	text := " " + strings.Join(words, " ") + " "
	last := len(query) - 1
	switch {
	case query[0] == '!':
		return !fits(query[1:], words)
	case query[0] == '(':
		return fits(query[1:last], words)
	case query[last] == '*':
		return strings.Contains(text, " "+query[:last])
	}
	return strings.Contains(text, " "+strings.Trim(query, `"`)+" ")
}

func cutOutside(query string, sign byte) []string {
	var parts []string
	depth, start := 0, 0
	for i := range len(query) {
		switch query[i] {
		case '(':
			depth++
		case ')':
			depth--
		case sign:
			if depth == 0 {
				parts = append(parts, query[start:i])
				start = i + 1
			}
		}
	}
	return append(parts, query[start:])
}
