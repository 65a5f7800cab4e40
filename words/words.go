// Package words: the words of a text.
package words

import "sift/api"

// Split gives the words of a text in their order.
func Split(body string) []string {
	var list []string
	for start := 0; start < len(body); {
		end := runEnd(body, start)
		if end > start {
			list = append(list, wordOf(body[start:end]))
		}
		start = end + 1
	}
	return list
}

// Small tells whether a byte is a small letter or a digit: all that a word is made of.
func Small(c byte) bool {
	return 'a' <= c && c <= 'z' || '0' <= c && c <= '9'
}

// Is tells whether a text is a word of some text.
func Is(text string) bool {
	if len(text) < 1 || len(text) > api.MaxWord {
		return false
	}
	for i := range len(text) {
		if !Small(text[i]) {
			return false
		}
	}
	return true
}

// Length tells how many bytes the shortest text with these words has.
func Length(list []string) int {
	total := max(len(list)-1, 0)
	for _, word := range list {
		total += len(word)
	}
	return total
}

func runEnd(body string, at int) int {
	for at < len(body) && Small(lowered(body[at])) {
		at++
	}
	return at
}

// wordOf goes by a list of bytes, so that the word keeps none of the text's memory.
func wordOf(run string) string {
	word := []byte(run[:min(len(run), api.MaxWord)])
	for i, c := range word {
		word[i] = lowered(c)
	}
	return string(word)
}

func lowered(c byte) byte {
	if 'A' <= c && c <= 'Z' {
		return c - 'A' + 'a'
	}
	return c
}
