// Package ask: the texts that are queries, and what they ask.
package ask

import (
	"sift/api"
	"sift/words"
)

// kind is a kind of TERM, or a sign.
type kind int

const (
	word   kind = iota // WORD
	begin              // WORD*
	phrase             // "WORD WORD"
	not                // !
	all                // &
	some               // |
	kinds              // how many there are
)

// Query is what a query asks: some words, or something of other queries.
type Query struct {
	kind  kind
	words []string
	parts []Query
}

// Read gives the query that a text is, whether it is one, and the length of its longest
// beginning with which some query begins.
func Read(text string) (Query, bool, int) {
	r := reader{text: text}
	q, ok := r.query(0)
	return q, ok && r.at == len(text), r.at
}

// reader goes ahead only over bytes that some query has there, and never back: where it
// stops is the place that Read tells.
type reader struct {
	text string
	at   int
}

// query reads a query inside depth signs and brackets.
func (r *reader) query(depth int) (Query, bool) {
	return r.several(some, '|', r.all, depth)
}

func (r *reader) all(depth int) (Query, bool) {
	return r.several(all, '&', r.part, depth)
}

// several reads parts with a sign between each two.
func (r *reader) several(k kind, sign byte, part func(int) (Query, bool), depth int) (Query, bool) {
	q := Query{kind: k}
	for {
		next, ok := part(depth)
		if !ok {
			return Query{}, false
		}
		q.parts = append(q.parts, next)
		if !r.take(sign) {
			return q, true
		}
	}
}

func (r *reader) part(depth int) (Query, bool) {
	deeper := depth < api.MaxDepth
	switch {
	case deeper && r.take('!'):
		q, ok := r.part(depth + 1)
		return Query{kind: not, parts: []Query{q}}, ok
	case deeper && r.take('('):
		q, ok := r.query(depth + 1)
		return q, ok && r.take(')')
	case r.take('"'):
		return r.phrase()
	}
	return r.term()
}

// phrase reads what stands behind the first quote.
func (r *reader) phrase() (Query, bool) {
	q := Query{kind: phrase}
	for r.word(&q) {
		if !r.take(' ') {
			return q, r.take('"')
		}
	}
	return Query{}, false
}

func (r *reader) term() (Query, bool) {
	q := Query{kind: word}
	if !r.word(&q) {
		return Query{}, false
	}
	if r.take('*') {
		q.kind = begin
	}
	return q, true
}

// word reads a word into a query.
func (r *reader) word(q *Query) bool {
	start := r.at
	for r.at < len(r.text) && r.at-start < api.MaxWord && words.Small(r.text[r.at]) {
		r.at++
	}
	if r.at == start {
		return false
	}
	q.words = append(q.words, r.text[start:r.at])
	return true
}

func (r *reader) take(sign byte) bool {
	if r.at < len(r.text) && r.text[r.at] == sign {
		r.at++
		return true
	}
	return false
}
