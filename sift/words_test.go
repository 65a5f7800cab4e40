package sift_test

import (
	"slices"
	"strings"
	"testing"

	"sift/api"
	"sift/sift"
)

func TestP3Words(t *testing.T) {
	for _, c := range []struct {
		body string
		want []string
	}{
		{"", nil},
		{" \t\n", nil},
		{"a", []string{"a"}},
		{"Disk full: /dev/sda1, 97%!", []string{"disk", "full", "dev", "sda1", "97"}},
		{"b a B", []string{"b", "a", "b"}},
		{"abcdefgh", []string{"abcdefgh"}},
		{"ABCDEFGHIJ", []string{"abcdefgh"}},
		{"abcdefghijklmnopq r", []string{"abcdefgh", "r"}},
		{"12345678 123456789", []string{"12345678", "12345678"}},
		{" a  b ", []string{"a", "b"}},
		{"caf\u00e9s \u0131x \u212ay", []string{"caf", "s", "x", "y"}},
		{"x\x00y\xffz", []string{"x", "y", "z"}},
	} {
		got, err := sift.Words(c.body)
		if err != api.OK || !slices.Equal(got, c.want) {
			t.Errorf("Words(%q) = %q, %d, want %q", c.body, got, err, c.want)
		}
	}
}

// Every byte either stands in a word, made small, or between words.
func TestP3EveryByte(t *testing.T) {
	const large, small = "ABCDEFGHIJKLMNOPQRSTUVWXYZ", "abcdefghijklmnopqrstuvwxyz"
	for c := range 256 {
		sign := string([]byte{byte(c)})
		want := []string{"x", "y"}
		if strings.Contains(small+"0123456789", sign) {
			want = []string{"x" + sign + "y"}
		}
		if i := strings.Index(large, sign); i >= 0 {
			want = []string{"x" + small[i:i+1] + "y"}
		}
		if got, err := sift.Words("x" + sign + "y"); err != api.OK || !slices.Equal(got, want) {
			t.Errorf("Words with the byte %d = %q, %d, want %q", c, got, err, want)
		}
	}
}

func TestP3Bound(t *testing.T) {
	if got, err := sift.Words(strings.Repeat("a ", 60)); err != api.OK || len(got) != 60 {
		t.Errorf("Words of 120 bytes = %q, %d", got, err)
	}
	if got, err := sift.Words(strings.Repeat("q", 120)); err != api.OK || !slices.Equal(got, []string{"qqqqqqqq"}) {
		t.Errorf("Words of one run of 120 bytes = %q, %d", got, err)
	}
	for _, sign := range []string{"a", " ", "\x00"} {
		for _, length := range []int{121, 122, 1 << 20} {
			if got, err := sift.Words(strings.Repeat(sign, length)); err != api.ErrLong || got != nil {
				t.Errorf("Words of %d times %q = %d words, %d", length, sign, len(got), err)
			}
		}
	}
}
