package wire

import (
	"bytes"
	"math"
	"slices"
	"strings"
	"testing"
)

func TestNumbers(t *testing.T) {
	for _, c := range []struct {
		n    int
		want []byte
	}{
		{0, []byte{0}}, {1, []byte{1}}, {127, []byte{0x7f}}, {128, []byte{0x80, 1}}, {300, []byte{0xac, 2}},
		{16383, []byte{0xff, 0x7f}}, {16384, []byte{0x80, 0x80, 1}}, {FourBytes, []byte{0xff, 0xff, 0xff, 0x7f}},
		{1 << 28, []byte{0x80, 0x80, 0x80, 0x80, 1}}, {math.MaxInt, append(bytes.Repeat([]byte{0xff}, 8), 0x7f)},
	} {
		var w Writer
		w.Number(c.n)
		if !bytes.Equal(w.list, c.want) {
			t.Errorf("%d is written as %v, want %v", c.n, w.list, c.want)
		}
		r := Unseal(w.Sealed())
		if got := r.Number(c.n, c.n); got != c.n || !r.Done() {
			t.Errorf("%v is read as %d", c.want, got)
		}
	}
}

func TestNumbersThatMayNotBe(t *testing.T) {
	nine := strings.Repeat("\xff", 9)
	for _, list := range []string{"", "\x80", "\x80\x00", "\xff\x80\x00", "\x80\x80\x80\x80\x00", nine, nine + "\x00", nine + "\x01", nine + "\x7f", nine + nine + "\x01"} {
		var w Writer
		w.Text(list)
		r := Unseal(w.Sealed())
		if got := r.Number(0, math.MaxInt); got != 0 || r.Done() || !r.Failed() {
			t.Errorf("%q is read as %d", list, got)
		}
	}
	var w Writer
	w.Number(FourBytes + 1)
	r := Unseal(w.Sealed())
	if got := r.Number(0, FourBytes); got != 0 || !r.Failed() {
		t.Errorf("a number of five bytes is read as %d, though its bound has four", got)
	}
	for _, bounds := range [][2]int{{0, 4}, {6, 9}, {0, -1}} {
		var w Writer
		w.Number(5)
		r := Unseal(w.Sealed())
		if got := r.Number(bounds[0], bounds[1]); got != 0 || r.Done() {
			t.Errorf("5 is read as %d within %v", got, bounds)
		}
	}
}

func TestRisingLists(t *testing.T) {
	for _, list := range [][]int{{}, {0}, {9}, {0, 1, 2}, {3, 7}, {5, 300, 301, 99999}} {
		var w Writer
		w.Rising(list)
		r := Unseal(w.Sealed())
		if got := r.Rising(len(list), 99999); !slices.Equal(got, list) || !r.Done() {
			t.Errorf("%v is read as %v", list, got)
		}
		if len(list) == 0 {
			continue
		}
		r = Unseal(w.Sealed())
		if got := r.Rising(len(list), list[len(list)-1]-1); r.Done() {
			t.Errorf("%v is read as %v, though its last entry is above the bound", list, got)
		}
	}
}

func TestSum(t *testing.T) {
	for _, c := range []struct {
		list string
		want [4]byte
	}{
		{"", [4]byte{0, 0, 0, 1}},
		{"Wikipedia", [4]byte{0x11, 0xe6, 0x03, 0x98}},
		{string(bytes.Repeat([]byte{0xff}, 257)), [4]byte{0x08, 0x0f, 0x00, 0x0f}},
	} {
		if got := sum([]byte(c.list)); got != c.want {
			t.Errorf("the sum of %.20q is %x, want %x", c.list, got, c.want)
		}
	}
}

func TestFailedForGood(t *testing.T) {
	r := Unseal([]byte{5, 6, 0, 0, 0, 0})
	if !r.Failed() || r.Number(0, 9) != 0 || r.Text(1) != "" || r.Byte() != 0 || r.Done() {
		t.Errorf("a file with a wrong sum is read")
	}
	var w Writer
	w.Text("ab")
	r = Unseal(w.Sealed())
	if r.Text(3) != "" || r.Text(1) != "" || r.Done() {
		t.Errorf("more is read than there is")
	}
}

func TestBytes(t *testing.T) {
	var w Writer
	w.Byte(0x80)
	w.Byte(0)
	r := Unseal(w.Sealed())
	if r.Byte() != 0x80 || r.Byte() != 0 || !r.Done() || r.Failed() {
		t.Errorf("bytes are not read as they were written")
	}
	if r.Byte() != 0 || !r.Failed() || r.Done() {
		t.Errorf("a byte is read that there is not")
	}
}
