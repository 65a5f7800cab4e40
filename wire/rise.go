package wire

// Rise is how far a rising list has come. It stands alone, because between the entries
// of a list other things may be written.
type Rise struct {
	least int // that the next entry may be
}

func (r *Rise) gapTo(entry int) int {
	gap := entry - r.least
	r.least = entry + 1
	return gap
}

func (r *Rise) entryBehind(gap int) int {
	entry := r.least + gap
	r.least = entry + 1
	return entry
}
