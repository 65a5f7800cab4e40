package dict

import (
	"math/rand"
	"slices"
	"strings"
	"testing"
)

func drawnTerms(random *rand.Rand) []string {
	var terms []string
	for range random.Intn(40) {
		term := ""
		for range 1 + random.Intn(8) {
			term += string("09abz"[random.Intn(1+random.Intn(5))])
		}
		terms = append(terms, term)
	}
	slices.Sort(terms)
	return slices.Compact(terms)
}

// all gives all texts over some signs, up to a length.
func all(signs string, length int) []string {
	list := []string{""}
	for at := 0; len(list[at]) < length; at++ {
		for _, sign := range signs {
			list = append(list, list[at]+string(sign))
		}
	}
	return list[1:]
}

func TestFindAndBegin(t *testing.T) {
	random := rand.New(rand.NewSource(1))
	texts := all("09abz", 4)
	for range 100 {
		terms := drawnTerms(random)
		d := Of(terms)
		for _, text := range slices.Concat(texts, terms) {
			place, isTerm := slices.BinarySearch(terms, text)
			if got, found := d.Find(text); found != isTerm || found && got != place {
				t.Fatalf("%q: Find(%q) = %d, %v, want %d, %v", terms, text, got, found, place, isTerm)
			}
			want := 0
			for place+want < len(terms) && strings.HasPrefix(terms[place+want], text) {
				want++
			}
			if got, count := d.Begin(text); count != want || count > 0 && got != place || got+count > len(terms) {
				t.Fatalf("%q: Begin(%q) = %d, %d, want %d, %d", terms, text, got, count, place, want)
			}
		}
	}
}

func TestStates(t *testing.T) {
	for _, c := range []struct {
		terms string
		want  int
	}{{"", 0}, {"a", 2}, {"0 z", 2}, {"ab ac bb", 4}, {"a ab", 3}, {"tap taps top tops", 5}, {"abcdefgh", 9}} {
		if got := Of(strings.Fields(c.terms)).States(); got != c.want {
			t.Errorf("%q has %d states, want %d", c.terms, got, c.want)
		}
	}
}

// Every sign has an exit of its own, in the order.
func TestEverySign(t *testing.T) {
	terms := all("0123456789abcdefghijklmnopqrstuvwxyz", 1)
	d := Of(terms)
	for place, term := range terms {
		if got, found := d.Find(term); !found || got != place {
			t.Errorf("Find(%q) = %d, %v, want %d", term, got, found, place)
		}
	}
}

// Texts that are no words are found nowhere.
func TestOtherSigns(t *testing.T) {
	d := Of([]string{"a", "b"})
	for _, text := range []string{"A", " ", "\x00", "\xff", "a ", "a\xff", "ab", "ba"} {
		if _, found := d.Find(text); found {
			t.Errorf("Find(%q) finds it", text)
		}
		if _, count := d.Begin(text); count != 0 {
			t.Errorf("Begin(%q) finds %d", text, count)
		}
	}
}
