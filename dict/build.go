package dict

// Words are made of the ten digits and the letters behind them.
const (
	digits = 10
	signs  = digits + 26
)

// exits is all that leads out of a state. States with the same exits have the same texts
// behind them: they are one state.
type exits struct {
	ends bool         // a term ends here
	to   [signs]state // for each sign, in the order; 0 if it has no exit
}

// builder makes the states of a dictionary, those behind ahead of those that lead there.
type builder struct {
	known map[exits]state
	made  Dictionary
}

// Of makes the dictionary of terms, which are different words in the order.
func Of(terms []string) Dictionary {
	b := builder{
		known: make(map[exits]state),
		made:  Dictionary{leads: make(map[exit]lead), about: make([]about, 1)},
	}
	if len(terms) > 0 {
		b.made.start = b.behind(terms, 0)
	}
	return b.made
}

// behind gives the state behind the first length bytes of the terms, in which they are all
// the same.
func (b *builder) behind(terms []string, length int) state {
	var out exits
	if len(terms[0]) == length {
		out.ends = true
		terms = terms[1:]
	}
	for len(terms) > 0 {
		count := sameSign(terms, length)
		out.to[slot(terms[0][length])] = b.behind(terms[:count], length+1)
		terms = terms[count:]
	}
	return b.stateOf(out)
}

// sameSign tells how many terms have at a place the sign of the first one.
func sameSign(terms []string, place int) int {
	count := 1
	for count < len(terms) && terms[count][place] == terms[0][place] {
		count++
	}
	return count
}

func (b *builder) stateOf(out exits) state {
	if s, found := b.known[out]; found {
		return s
	}
	s := state(len(b.made.about))
	b.known[out] = s
	b.made.put(s, out)
	return s
}

func (d *Dictionary) put(s state, out exits) {
	terms := 0
	if out.ends {
		terms = 1
	}
	for i, to := range out.to {
		if to != 0 {
			d.leads[exit{s, signOf(i)}] = lead{to, terms}
			terms += d.about[to].terms
		}
	}
	d.about = append(d.about, about{out.ends, terms})
}

// slot gives the place of a sign among all that words are made of, in the order.
func slot(sign byte) int {
	if sign <= '9' {
		return int(sign - '0')
	}
	return digits + int(sign-'a')
}

func signOf(slot int) byte {
	if slot < digits {
		return '0' + byte(slot)
	}
	return 'a' + byte(slot-digits)
}
