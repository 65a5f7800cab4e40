package wire

import "math/bits"

const (
	bitsPerByte = 7
	lowBits     = 0x7f
	moreBit     = 0x80
	// No number that is read has more bytes; so none grows out of an int.
	numberBytes = (bits.UintSize - 1) / bitsPerByte
)

// FourBytes is the greatest small number of four bytes.
const FourBytes = 1<<(4*bitsPerByte) - 1

// Reader reads a file from its beginning. Once something was not as it must be, it has
// failed for good, and reads only zeros: so who reads may ask at the end alone.
type Reader struct {
	rest   []byte
	failed bool
}

// Unseal reads what is ahead of the sum of a file, and has failed if the sum is wrong.
func Unseal(file []byte) *Reader {
	end := len(file) - sumBytes
	if end < 0 || sum(file[:end]) != [sumBytes]byte(file[end:]) {
		return &Reader{failed: true}
	}
	return &Reader{rest: file[:end]}
}

// Fail tells the reader that what it read may not be.
func (r *Reader) Fail() {
	r.failed = true
	r.rest = nil
}

// Failed tells whether something was not as it must be.
func (r *Reader) Failed() bool {
	return r.failed
}

// Done tells whether all was read and nothing failed.
func (r *Reader) Done() bool {
	return !r.failed && len(r.rest) == 0
}

// Text reads some bytes as they are.
func (r *Reader) Text(length int) string {
	if length > len(r.rest) {
		r.Fail()
		return ""
	}
	text := string(r.rest[:length])
	r.rest = r.rest[length:]
	return text
}

// Byte reads one byte as it is.
func (r *Reader) Byte() byte {
	if len(r.rest) == 0 {
		r.Fail()
		return 0
	}
	c := r.rest[0]
	r.rest = r.rest[1:]
	return c
}

// Number reads a small number that must be from least to most; having failed it gives 0.
func (r *Reader) Number(least, most int) int {
	n := r.small()
	if r.failed || n < least || n > most {
		r.Fail()
		return 0
	}
	return n
}

// Entry reads the next entry of a rising list, which must be at most most.
func (r *Reader) Entry(rise *Rise, most int) int {
	return rise.entryBehind(r.Number(0, most-rise.least))
}

// Rising reads a whole rising list of so many entries.
func (r *Reader) Rising(count, most int) []int {
	list := make([]int, count)
	var rise Rise
	for i := range list {
		list[i] = r.Entry(&rise, most)
	}
	return list
}

func (r *Reader) small() int {
	n := 0
	for i := range numberBytes {
		c := r.Byte()
		n |= int(c&lowBits) << (bitsPerByte * i)
		if c&moreBit == 0 {
			if c == 0 && i > 0 {
				r.Fail() // it could be written in fewer bytes
			}
			return n
		}
	}
	r.Fail()
	return 0
}
