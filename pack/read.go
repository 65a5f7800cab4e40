package pack

import (
	"sift/api"
	"sift/table"
	"sift/wire"
	"sift/words"
)

const (
	// Words of one byte with one byte between each two.
	maxPlaces = (api.MaxBody + 1) / 2
	maxTerms  = api.MaxDocs * maxPlaces
)

// Read gives the texts of a file, and whether it is one: whether Write gives just these
// bytes for some docs that may be.
func Read(file []byte) ([]api.Text, bool) {
	r := wire.Unseal(file)
	t := readTable(r)
	if !r.Done() {
		return nil, false
	}
	texts := t.Texts()
	if !mayBe(texts, len(t.At)) {
		return nil, false
	}
	return texts, true
}

// mayBe tells whether no text is too long, and whether they have all the words that were
// read: a word behind a place without one is in none of them.
func mayBe(texts []api.Text, count int) bool {
	for _, text := range texts {
		if words.Length(text.Words) > api.MaxBody {
			return false
		}
		count -= len(text.Words)
	}
	return count == 0
}

func readTable(r *wire.Reader) table.Table {
	if r.Text(len(mark)) != mark {
		r.Fail()
	}
	t := table.Table{At: make(map[table.Spot]int)}
	t.Ids = r.Rising(r.Number(0, api.MaxDocs), api.MaxId)
	for range r.Number(0, maxTerms) {
		readTerm(r, &t)
	}
	return t
}

func readTerm(r *wire.Reader, t *table.Table) {
	term := r.Text(r.Number(1, api.MaxWord))
	if !words.Is(term) || !isNext(term, t.Terms) {
		r.Fail()
	}
	t.Terms = append(t.Terms, term)
	var docs wire.Rise
	for range r.Number(1, len(t.Ids)) {
		readPlaces(r, t, r.Entry(&docs, len(t.Ids)-1))
	}
}

func isNext(term string, terms []string) bool {
	count := len(terms)
	return count == 0 || terms[count-1] < term
}

// readPlaces reads at which places of a doc the last term stands.
func readPlaces(r *wire.Reader, t *table.Table, doc int) {
	count := r.Number(1, maxPlaces)
	for _, place := range r.Rising(count, maxPlaces-1) {
		s := table.Spot{Doc: doc, Place: place}
		if _, taken := t.At[s]; taken {
			r.Fail()
		}
		t.At[s] = len(t.Terms) - 1
	}
}
