// Package dict: dictionaries that find a term, or all terms that begin with a text, by
// going from state to state.
package dict

// state is the number of a state; 0 is none, and nothing leads out of it.
type state int

// exit is a way out of a state: the one for a sign.
type exit struct {
	from state
	sign byte
}

// lead is what an exit leads to.
type lead struct {
	to    state
	ahead int // how many of the terms behind the state it leaves are ahead of those behind it
}

// about is what is told of a state.
type about struct {
	ends  bool // a term ends here
	terms int  // how many terms end here or behind it
}

// Dictionary has the terms of a segment. By the numbers of terms that each exit passes by
// it knows the place of each term among them in the order, without having a list of them.
type Dictionary struct {
	leads map[exit]lead
	about []about // of each state; of 0 nothing
	start state
}

// States tells how many states there are.
func (d Dictionary) States() int {
	return len(d.about) - 1
}

// Find gives the place of a word among the terms, and whether it is one.
func (d Dictionary) Find(word string) (int, bool) {
	at, place := d.walk(word)
	return place, d.about[at].ends
}

// Begin tells at which place the terms that begin with a text begin, and how many they are.
func (d Dictionary) Begin(text string) (int, int) {
	at, place := d.walk(text)
	return place, d.about[at].terms
}

// walk goes by the signs of a text from the start, and counts the terms that it passes by.
// If no term begins with the text, it comes to the state 0 and stays there.
func (d Dictionary) walk(text string) (state, int) {
	at, place := d.start, 0
	for i := range len(text) {
		next := d.leads[exit{at, text[i]}]
		at = next.to
		place += next.ahead
	}
	return at, place
}
