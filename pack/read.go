package pack

import (
	"sift/api"
	"sift/wire"
	"sift/words"
)

const (
	// Words of one byte with one byte between each two.
	maxPlaces = (api.MaxBody + 1) / 2
	maxTerms  = api.MaxDocs * maxPlaces
)

// Read gives the texts of a file, and whether it is one: whether Write gives just these
// bytes for some docs that may be.
func Read(file []byte) ([]api.Text, bool) {
	r := wire.Unseal(file)
	t := readTable(r)
	if !r.Done() {
		return nil, false
	}
	texts := t.texts()
	if !mayBe(texts, len(t.at)) {
		return nil, false
	}
	return texts, true
}

// mayBe tells whether no text is too long, and whether they have all the words that were
// read: a word behind a place without one is in none of them.
func mayBe(texts []api.Text, count int) bool {
	for _, text := range texts {
		if words.Length(text.Words) > api.MaxBody {
			return false
		}
		count -= len(text.Words)
	}
	return count == 0
}

func readTable(r *wire.Reader) table {
	if r.Text(len(mark)) != mark {
		r.Fail()
	}
	t := table{at: make(map[spot]int)}
	t.ids = r.Rising(r.Number(0, api.MaxDocs), api.MaxId)
	for range r.Number(0, maxTerms) {
		t.readTerm(r)
	}
	return t
}

func (t *table) readTerm(r *wire.Reader) {
	term := r.Text(r.Number(1, api.MaxWord))
	if !words.Is(term) || !t.isNext(term) {
		r.Fail()
	}
	t.terms = append(t.terms, term)
	var docs wire.Rise
	for range r.Number(1, len(t.ids)) {
		t.readPlaces(r, r.Entry(&docs, len(t.ids)-1))
	}
}

func (t *table) isNext(term string) bool {
	count := len(t.terms)
	return count == 0 || t.terms[count-1] < term
}

// readPlaces reads at which places of a doc the last term stands.
func (t *table) readPlaces(r *wire.Reader, doc int) {
	count := r.Number(1, maxPlaces)
	for _, place := range r.Rising(count, maxPlaces-1) {
		s := spot{doc, place}
		if _, taken := t.at[s]; taken {
			r.Fail()
		}
		t.at[s] = len(t.terms) - 1
	}
}
