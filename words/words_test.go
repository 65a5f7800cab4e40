package words

import "testing"

func TestIs(t *testing.T) {
	for _, text := range []string{"a", "z9", "01234567"} {
		if !Is(text) {
			t.Errorf("%q is a word", text)
		}
	}
	for _, text := range []string{"", "abcdefghi", "A", "a b", "a*", "\u00e9", "a\x00"} {
		if Is(text) {
			t.Errorf("%q is no word", text)
		}
	}
}

func TestLength(t *testing.T) {
	for _, c := range []struct {
		list []string
		want int
	}{
		{nil, 0}, {[]string{"ab"}, 2}, {[]string{"ab", "c", "d"}, 6},
	} {
		if got := Length(c.list); got != c.want {
			t.Errorf("Length(%q) = %d, want %d", c.list, got, c.want)
		}
	}
}
