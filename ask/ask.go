// Package ask: the texts that are queries.
package ask

import (
	"sift/api"
	"sift/words"
)

// Check tells whether a text is a query, and the length of its longest beginning
// with which some query begins.
func Check(text string) (bool, int) {
	p := parser{text: text}
	whole := p.query(0) && p.at == len(text)
	return whole, p.at
}

// parser goes ahead only over bytes that some query has there, and never back: where it
// stops is the place that Check tells.
type parser struct {
	text string
	at   int
}

// query reads a query inside depth signs and brackets.
func (p *parser) query(depth int) bool {
	for p.all(depth) {
		if !p.take('|') {
			return true
		}
	}
	return false
}

func (p *parser) all(depth int) bool {
	for p.part(depth) {
		if !p.take('&') {
			return true
		}
	}
	return false
}

func (p *parser) part(depth int) bool {
	deeper := depth < api.MaxDepth
	switch {
	case deeper && p.take('!'):
		return p.part(depth + 1)
	case deeper && p.take('('):
		return p.query(depth+1) && p.take(')')
	case p.take('"'):
		return p.phrase()
	}
	return p.term()
}

// phrase reads what stands behind the first quote.
func (p *parser) phrase() bool {
	for p.word() {
		if !p.take(' ') {
			return p.take('"')
		}
	}
	return false
}

func (p *parser) term() bool {
	if !p.word() {
		return false
	}
	p.take('*')
	return true
}

func (p *parser) word() bool {
	start := p.at
	for p.at < len(p.text) && p.at-start < api.MaxWord && words.Small(p.text[p.at]) {
		p.at++
	}
	return p.at > start
}

func (p *parser) take(sign byte) bool {
	if p.at < len(p.text) && p.text[p.at] == sign {
		p.at++
		return true
	}
	return false
}
