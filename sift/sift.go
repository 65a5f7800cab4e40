// Package sift: finding texts by their words, while they come and go: see DOC.md.
package sift

import (
	"sift/api"
	"sift/ask"
	"sift/disk"
	"sift/pack"
	"sift/words"
)

// Words gives the words of a text (P3).
func Words(body string) ([]string, api.Errno) {
	if len(body) > api.MaxBody {
		return nil, api.ErrLong
	}
	return words.Split(body), api.OK
}

// Check tells whether a text is a query (P4).
func Check(query string) (api.Errno, int) {
	_, err, place := readQuery(query)
	return err, place
}

// readQuery gives what a query asks, or what Check tells of a text that is none.
func readQuery(query string) (ask.Query, api.Errno, int) {
	if len(query) > api.MaxQuery {
		return ask.Query{}, api.ErrLong, 0
	}
	asked, whole, place := ask.Read(query)
	if !whole {
		return ask.Query{}, api.ErrQuery, place
	}
	return asked, api.OK, 0
}

// Pack gives the file of some docs (P5).
func Pack(docs []api.Doc) ([]byte, api.Errno) {
	if len(docs) > api.MaxDocs {
		return nil, api.ErrFull
	}
	sorted := byId(docs)
	if !idsMayBe(sorted) {
		return nil, api.ErrId
	}
	texts, err := textsOf(sorted)
	if err != api.OK {
		return nil, err
	}
	return pack.Write(texts), api.OK
}

// Read gives the docs of a file (P5).
func Read(file []byte) ([]api.Text, api.Errno) {
	texts, ok := pack.Read(file)
	if !ok {
		return nil, api.ErrForm
	}
	return texts, api.OK
}

// New makes an index (P6).
func New(c api.Config) (*Index, api.Errno) {
	if !settingsMayBe(c) {
		return nil, api.ErrConfig
	}
	return emptyIndex(c), api.OK
}

// Add puts a text in (P7).
func (x *Index) Add(id int, body string) api.Errno {
	if x.down {
		return api.ErrDown
	}
	if !idMayBe(id) {
		return api.ErrId
	}
	list, err := Words(body)
	if err != api.OK {
		return err
	}
	if !x.has(id) && x.size() == api.MaxDocs {
		return api.ErrFull
	}
	x.drop(id)
	x.gather(api.Text{Id: id, Words: list})
	if len(x.gathered) == x.settings.Buffer {
		x.flush()
	}
	return api.OK
}

// Delete takes a text away (P7).
func (x *Index) Delete(id int) api.Errno {
	if x.down {
		return api.ErrDown
	}
	if !idMayBe(id) {
		return api.ErrId
	}
	if !x.has(id) {
		return api.ErrNone
	}
	x.drop(id)
	return api.OK
}

// Len tells how many texts there are (P6).
func (x *Index) Len() (int, api.Errno) {
	if x.down {
		return 0, api.ErrDown
	}
	return x.size(), api.OK
}

// Flush makes a segment of the gathered texts (P8).
func (x *Index) Flush() (bool, api.Errno) {
	if x.down {
		return false, api.ErrDown
	}
	return x.flush(), api.OK
}

// Segments tells of the segments (P8).
func (x *Index) Segments() ([]api.Segment, api.Errno) {
	if x.down {
		return nil, api.ErrDown
	}
	var list []api.Segment
	for _, p := range x.parts {
		list = append(list, p.segment.About(p.dead))
	}
	return list, api.OK
}

// Open opens a reader (P9).
func (x *Index) Open() (int, api.Errno) {
	if x.down {
		return 0, api.ErrDown
	}
	reader, free := x.freeReader()
	if !free {
		return 0, api.ErrFull
	}
	x.flush()
	x.readers[reader] = viewOf(x.parts)
	return reader, api.OK
}

// Close closes a reader (P9).
func (x *Index) Close(reader int) api.Errno {
	if x.down {
		return api.ErrDown
	}
	if !x.isOpen(reader) {
		return api.ErrReader
	}
	x.readers[reader] = nil
	return api.OK
}

// Search finds texts (P10).
func (x *Index) Search(reader int, query string, after int, limit int) (api.Found, api.Errno) {
	if x.down {
		return api.Found{}, api.ErrDown
	}
	if !x.isOpen(reader) {
		return api.Found{}, api.ErrReader
	}
	asked, err, _ := readQuery(query)
	if err != api.OK {
		return api.Found{}, err
	}
	if limit < 1 || limit > api.MaxLimit {
		return api.Found{}, api.ErrArg
	}
	return foundOf(x.readers[reader].find(asked), after, limit), api.OK
}

// Start begins a merge (P11).
func (x *Index) Start() (bool, api.Errno) {
	if x.down {
		return false, api.ErrDown
	}
	if x.merge != nil {
		return false, api.ErrBusy
	}
	parts := x.due()
	if len(parts) == 0 {
		return false, api.OK
	}
	x.merge = mergeOf(parts)
	return true, api.OK
}

// Finish ends a merge (P12).
func (x *Index) Finish() (bool, api.Errno) {
	if x.down {
		return false, api.ErrDown
	}
	if x.merge == nil {
		return false, api.OK
	}
	x.put(x.merge)
	x.merge = nil
	return true, api.OK
}

// Abandon gives a merge up (P12).
func (x *Index) Abandon() (bool, api.Errno) {
	if x.down {
		return false, api.ErrDown
	}
	if x.merge == nil {
		return false, api.OK
	}
	x.merge = nil
	return true, api.OK
}

// Commit makes what there is last (P13).
func (x *Index) Commit() api.Errno {
	if x.down {
		return api.ErrDown
	}
	x.flush()
	for _, step := range x.steps() {
		if !x.fuse.spend() {
			x.goDown()
			return api.ErrDown
		}
		step()
	}
	return api.OK
}

// Break lets the index go down later (P14).
func (x *Index) Break(n int) api.Errno {
	if x.down {
		return api.ErrDown
	}
	if n < 0 || n > api.MaxBreak {
		return api.ErrArg
	}
	x.fuse = fuse{lit: true, left: n}
	return api.OK
}

// Recover brings the index up again (P15).
func (x *Index) Recover() api.Errno {
	if !x.down {
		return api.ErrState
	}
	x.comeUp()
	return api.OK
}

// Files tells the names of all files (P16).
func (x *Index) Files() []string {
	return x.files.Names()
}

// Load makes an index of the files of a commit (P17).
func Load(c api.Config, names []string, files [][]byte) (*Index, api.Errno) {
	if !settingsMayBe(c) {
		return nil, api.ErrConfig
	}
	loaded, ok := disk.Of(names, files)
	if !ok {
		return nil, api.ErrForm
	}
	x, ok := load(c, loaded)
	if !ok {
		return nil, api.ErrForm
	}
	return x, api.OK
}

// File gives the bytes of a file (P16).
func (x *Index) File(name string) ([]byte, api.Errno) {
	file, found := x.files.Bytes(name)
	if !found {
		return nil, api.ErrNone
	}
	return file, api.OK
}
