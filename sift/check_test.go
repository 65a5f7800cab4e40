package sift_test

import (
	"math/rand"
	"regexp"
	"strings"
	"testing"

	"sift/api"
	"sift/sift"
)

func wantQuery(t *testing.T, query string) {
	t.Helper()
	if err, place := sift.Check(query); err != api.OK || place != 0 {
		t.Errorf("Check(%q) = %d, %d, want OK, 0", query, err, place)
	}
}

func wantNoQuery(t *testing.T, query string, want int) {
	t.Helper()
	if err, place := sift.Check(query); err != api.ErrQuery || place != want {
		t.Errorf("Check(%q) = %d, %d, want ErrQuery, %d", query, err, place, want)
	}
}

func TestP4Queries(t *testing.T) {
	for _, query := range []string{
		"a", "z", "0", "9", "abcdefgh", "a*", "abcdefgh*", `"a"`, `"a b"`, `"abcdefgh 01234567 z"`,
		`a&(b|!"c d")&e*`, "a|b&c|d", "(a)", "((a)|b)&c", "!a", "!(a|b)", "!!a&!b*",
		"!!!!!a", "(((((a)))))", "!(!(!a))", "!!!!!a|!!!!!b&!!!!!c", "(!!!!a)&!!!!!b", "((((!a))))",
		strings.Repeat("a&", 29) + "ab", `"` + strings.Repeat("a ", 28) + `ab"`,
	} {
		wantQuery(t, query)
	}
}

func TestP4Places(t *testing.T) {
	for _, c := range []struct {
		query string
		place int
	}{
		{"", 0}, {"a&", 2}, {"a b", 1}, {`"a b`, 4}, {`""`, 1}, {"a**", 2}, {"!!!!!!a", 5}, {"a)", 1}, {"abcdefghi", 8}, {"A", 0},
		{"a|", 2}, {"|a", 0}, {"a||b", 2}, {"a|&b", 2}, {"*a", 0}, {" ", 0}, {"a ", 1}, {"a\n", 1}, {"\x00", 0}, {"\xff", 0}, {"a\u00e9", 1},
		{`"`, 1}, {`"a`, 2}, {`"a `, 3}, {`"a "`, 3}, {`" a"`, 1}, {`"a  b"`, 3}, {`"a*"`, 2}, {`"a"*`, 3}, {`"a"b`, 3}, {`a"b"`, 1}, {`"a&b"`, 2}, {`"A"`, 1}, {`"abcdefghi"`, 9}, {`"b abcdefghi"`, 11},
		{"!", 1}, {"!&a", 1}, {"!)", 1}, {"a!", 1}, {"a(b)", 1}, {"()", 1}, {"(", 1}, {"(a", 2}, {"(a|", 3}, {"(a))", 3}, {"(a)*", 3}, {"(a)!b", 3}, {")", 0},
		{"((((((a))))))", 5}, {"!(!(!(a)))", 5}, {"(!!!!!a)", 5}, {"(a|!!!!b)&!!!!!!c", 15}, {"!!!!!(a)", 5}, {"(((((a", 6}, {"(((((a))))", 10}, {"(((((!a)))))", 5},
		{"abcdefgh*i", 9}, {strings.Repeat("a", 60), 8}, {strings.Repeat("a&", 30), 60}, {`"` + strings.Repeat("a ", 29) + "a", 60},
	} {
		wantNoQuery(t, c.query, c.place)
	}
}

func TestP4Long(t *testing.T) {
	for _, query := range []string{strings.Repeat("a", 61), strings.Repeat("a&", 30) + "a", strings.Repeat("(", 1<<20), strings.Repeat("A", 61)} {
		if err, place := sift.Check(query); err != api.ErrLong || place != 0 {
			t.Errorf("Check of %d bytes = %d, %d, want ErrLong, 0", len(query), err, place)
		}
	}
}

// The grammar as the document tells it, tried at every sign: slow, and not the way of the program.
var (
	wordShape   = regexp.MustCompile(`^[a-z0-9]{1,8}\*?$`)
	phraseShape = regexp.MustCompile(`^"[a-z0-9]{1,8}( [a-z0-9]{1,8})*"$`)
)

func splits(text string, sign byte, left, right func(string) bool) bool {
	for i := range len(text) {
		if text[i] == sign && left(text[:i]) && right(text[i+1:]) {
			return true
		}
	}
	return false
}

func isQuery(text string, room int) bool {
	all := func(s string) bool { return isAll(s, room) }
	return all(text) || splits(text, '|', all, func(s string) bool { return isQuery(s, room) })
}

func isAll(text string, room int) bool {
	part := func(s string) bool { return isPart(s, room) }
	return part(text) || splits(text, '&', part, func(s string) bool { return isAll(s, room) })
}

func isPart(text string, room int) bool {
	if wordShape.MatchString(text) || phraseShape.MatchString(text) {
		return true
	}
	if room == 0 || len(text) < 2 {
		return false
	}
	if text[0] == '!' {
		return isPart(text[1:], room-1)
	}
	last := len(text) - 1
	return text[0] == '(' && text[last] == ')' && isQuery(text[1:last], room-1)
}

// begins tells whether some query begins with a text: if one does, then one that goes on
// by these few ends alone.
func begins(text string) bool {
	for brackets := range 6 {
		for _, end := range []string{"", "a", `"`, `a"`} {
			if isQuery(text+end+strings.Repeat(")", brackets), 5) {
				return true
			}
		}
	}
	return false
}

func checkByGrammar(t *testing.T, text string, known map[string]bool) {
	t.Helper()
	if isQuery(text, 5) {
		wantQuery(t, text)
		return
	}
	place := 0
	for ; place < len(text); place++ {
		beginning := text[:place+1]
		viable, met := known[beginning]
		if !met {
			viable = begins(beginning)
			known[beginning] = viable
		}
		if !viable {
			break
		}
	}
	wantNoQuery(t, text, place)
}

func TestP4EveryShortText(t *testing.T) {
	known := map[string]bool{}
	texts := []string{""}
	for range 6 {
		var longer []string
		for _, text := range texts {
			checkByGrammar(t, text, known)
			for _, sign := range `a*" !()&|` {
				longer = append(longer, text+string(sign))
			}
		}
		texts = longer
	}
}

func TestP4LongerTexts(t *testing.T) {
	random := rand.New(rand.NewSource(1))
	known := map[string]bool{}
	for range 3000 {
		text := []byte(randomQuery(random, 6))
		if len(text) > 30 {
			continue
		}
		for range random.Intn(3) {
			text[random.Intn(len(text))] = `ab0*" !()&|A`[random.Intn(12)]
		}
		checkByGrammar(t, string(text), known)
	}
}

// randomQuery gives a query, but for the bound of depth.
func randomQuery(random *rand.Rand, size int) string {
	word := "abcdefghij"[:1+random.Intn(9)]
	if size <= 0 {
		return word
	}
	switch random.Intn(7) {
	case 0:
		return word + "*"
	case 1:
		return `"` + word + ` b"`
	case 2, 3:
		return "!" + randomQuery(random, size-1)
	case 4:
		return "(" + randomQuery(random, size-1) + ")"
	case 5:
		return randomQuery(random, size-3) + "&" + randomQuery(random, size-3)
	}
	return randomQuery(random, size-3) + "|" + randomQuery(random, size-3)
}
