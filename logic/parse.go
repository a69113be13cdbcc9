package logic

import "tempo/api"

// Parse reads the whole text as one formula; it answers false if the text is
// none.
func Parse(text string) (Formula, bool) {
	r := &reader{text: text}
	f, ok := r.formula()
	if !ok || r.at != len(text) {
		return Formula{}, false
	}
	return f, true
}

// reader is how far a text was read, and how many signs of formulas were begun.
type reader struct {
	text string
	at   int
	size int
}

// formula counts a formula's sign ahead of reading it: every formula has just
// one, the one between brackets too. So the size bounds how deep the reading
// nests, and a long text is left as soon as it is too great.
func (r *reader) formula() (Formula, bool) {
	r.size++
	if r.size > api.MaxSize {
		return Formula{}, false
	}
	sign := r.next()
	switch {
	case standsAlone(sign):
		return Formula{Sign: sign}, true
	case standsAhead(sign):
		return r.single(sign)
	case sign == '(':
		return r.pair()
	}
	return Formula{}, false
}

// single reads what follows a sign that stands ahead of its one part.
func (r *reader) single(sign byte) (Formula, bool) {
	within, ok := r.within(sign)
	if !ok {
		return Formula{}, false
	}
	part, ok := r.formula()
	if !ok {
		return Formula{}, false
	}
	return Formula{Sign: sign, Within: within, Parts: []Formula{part}}, true
}

// pair reads what follows an opening bracket.
func (r *reader) pair() (Formula, bool) {
	left, ok := r.formula()
	if !ok {
		return Formula{}, false
	}
	sign := r.next()
	if !standsBetween(sign) {
		return Formula{}, false
	}
	within, ok := r.within(sign)
	if !ok {
		return Formula{}, false
	}
	right, ok := r.formula()
	if !ok || r.next() != ')' {
		return Formula{}, false
	}
	return Formula{Sign: sign, Within: within, Parts: []Formula{left, right}}, true
}

// within reads the sign's interval; a sign that has none takes nothing.
func (r *reader) within(sign byte) (Interval, bool) {
	if !looksBack(sign) && !looksAhead(sign) {
		return Interval{}, true
	}
	if r.next() != '[' {
		return Interval{}, false
	}
	low, ok := r.number()
	if !ok || r.next() != ',' {
		return Interval{}, false
	}
	if looksBack(sign) && r.peek() == 'i' {
		r.next()
		return Interval{Low: low, Endless: true}, r.next() == ']'
	}
	high, ok := r.number()
	if !ok || low > high {
		return Interval{}, false
	}
	return Interval{Low: low, High: high}, r.next() == ']'
}

// number stops at the first digit that makes it too great, so that no number
// is too long to be read.
func (r *reader) number() (int, bool) {
	start, value := r.at, 0
	for isDigit(r.peek()) {
		if r.at > start && value == 0 {
			return 0, false
		}
		value = value*10 + int(r.next()-'0')
		if value > api.MaxBound {
			return 0, false
		}
	}
	return value, r.at > start
}

// peek answers 0 at the end of the text: that byte is no part of any formula,
// so that the end needs no case of its own.
func (r *reader) peek() byte {
	if r.at >= len(r.text) {
		return 0
	}
	return r.text[r.at]
}

func (r *reader) next() byte {
	sign := r.peek()
	if r.at < len(r.text) {
		r.at++
	}
	return sign
}

func isDigit(sign byte) bool {
	return sign >= '0' && sign <= '9'
}

func standsAlone(sign byte) bool {
	return sign == 't' || sign >= '0' && sign < '0'+api.Props
}

func standsAhead(sign byte) bool {
	switch sign {
	case '!', 'O', 'H', 'F', 'G':
		return true
	}
	return false
}

func standsBetween(sign byte) bool {
	switch sign {
	case '&', '|', 'S', 'U':
		return true
	}
	return false
}
