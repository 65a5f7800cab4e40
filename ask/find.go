package ask

import (
	"sift/segment"
	"sift/set"
)

// In gives the docs of a segment that fit a query, the dead ones too.
func (q Query) In(docs *segment.Segment) set.Set {
	f := finder{docs, waysToAsk()}
	return f.ask(q)
}

// finder asks a segment.
type finder struct {
	docs *segment.Segment
	ways [kinds]way
}

// way is how a finder asks for one kind of query.
type way func(*finder, Query) set.Set

func waysToAsk() [kinds]way {
	return [kinds]way{
		word:   (*finder).word,
		begin:  (*finder).begin,
		phrase: (*finder).phrase,
		not:    (*finder).not,
		all:    (*finder).all,
		some:   (*finder).some,
	}
}

func (f *finder) ask(q Query) set.Set {
	return f.ways[q.kind](f, q)
}

func (f *finder) word(q Query) set.Set {
	return f.docs.Word(q.words[0])
}

func (f *finder) begin(q Query) set.Set {
	return f.docs.Begin(q.words[0])
}

func (f *finder) phrase(q Query) set.Set {
	return f.docs.Phrase(q.words)
}

func (f *finder) not(q Query) set.Set {
	return f.docs.All() &^ f.ask(q.parts[0])
}

func (f *finder) all(q Query) set.Set {
	docs := f.docs.All()
	for _, part := range q.parts {
		docs &= f.ask(part)
	}
	return docs
}

func (f *finder) some(q Query) set.Set {
	var docs set.Set
	for _, part := range q.parts {
		docs |= f.ask(part)
	}
	return docs
}
