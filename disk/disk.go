// Package disk: files, of which those that are not synced are lost when an index goes down.
package disk

import (
	"bytes"
	"maps"
	"slices"
)

// Disk has files, by their names.
type Disk struct {
	files map[string]file
}

type file struct {
	bytes  []byte
	synced bool
}

// New gives a disk without files.
func New() *Disk {
	return &Disk{make(map[string]file)}
}

// Of gives a disk of synced files, and whether there may be one: whether each name has its
// bytes, and none stands there twice.
func Of(names []string, files [][]byte) (*Disk, bool) {
	if len(names) != len(files) {
		return nil, false
	}
	d := New()
	for i, name := range names {
		if d.Has(name) {
			return nil, false
		}
		d.Write(name, files[i])
		d.Sync(name)
	}
	return d, true
}

// Write makes a file, of bytes that stay the caller's. It is not synced.
func (d *Disk) Write(name string, list []byte) {
	d.files[name] = file{bytes: bytes.Clone(list)}
}

// Sync makes a file outlast that the index goes down.
func (d *Disk) Sync(name string) {
	f := d.files[name]
	f.synced = true
	d.files[name] = f
}

// Rename gives a file another name.
func (d *Disk) Rename(name, other string) {
	f := d.files[name]
	delete(d.files, name)
	d.files[other] = f
}

// Delete takes a file away.
func (d *Disk) Delete(name string) {
	delete(d.files, name)
}

// Lose takes all files away that are not synced.
func (d *Disk) Lose() {
	maps.DeleteFunc(d.files, func(_ string, f file) bool { return !f.synced })
}

// Has tells whether there is a file of a name.
func (d *Disk) Has(name string) bool {
	_, found := d.files[name]
	return found
}

// Bytes gives the bytes of a file, in a list of their own, and whether there is one.
func (d *Disk) Bytes(name string) ([]byte, bool) {
	f, found := d.files[name]
	return bytes.Clone(f.bytes), found
}

// Len tells how many files there are.
func (d *Disk) Len() int {
	return len(d.files)
}

// Names gives the names of all files, in the order.
func (d *Disk) Names() []string {
	return slices.Sorted(maps.Keys(d.files))
}

// Others gives the names of all files but some, in the order.
func (d *Disk) Others(names []string) []string {
	sorted := slices.Sorted(slices.Values(names))
	return slices.DeleteFunc(d.Names(), func(name string) bool {
		_, named := slices.BinarySearch(sorted, name)
		return named
	})
}
