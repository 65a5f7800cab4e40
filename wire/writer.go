package wire

// Writer gathers the bytes of a file.
type Writer struct {
	list []byte
}

// Text writes bytes as they are.
func (w *Writer) Text(text string) {
	w.list = append(w.list, text...)
}

// Byte writes one byte as it is.
func (w *Writer) Byte(c byte) {
	w.list = append(w.list, c)
}

// Number writes a small number, which is 0 or above.
func (w *Writer) Number(n int) {
	for ; n > lowBits; n >>= bitsPerByte {
		w.list = append(w.list, byte(n&lowBits)|moreBit)
	}
	w.list = append(w.list, byte(n))
}

// Entry writes the next entry of a rising list.
func (w *Writer) Entry(rise *Rise, entry int) {
	w.Number(rise.gapTo(entry))
}

// Rising writes a whole rising list.
func (w *Writer) Rising(list []int) {
	var rise Rise
	for _, entry := range list {
		w.Entry(&rise, entry)
	}
}

// Sealed gives what was written with the sum of it behind it.
func (w *Writer) Sealed() []byte {
	total := sum(w.list)
	file := make([]byte, 0, len(w.list)+sumBytes)
	file = append(file, w.list...)
	return append(file, total[:]...)
}
