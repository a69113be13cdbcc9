// Package watch: a formula, watched while moments are released and the line
// rises.
package watch

import (
	"tempo/logic"
	"tempo/several"
)

// Reading is whether a formula holds at the moment of that time.
type Reading struct {
	Time  int
	Holds bool
}

// Watcher goes through the moments in order with one formula. It remembers
// only what the formula can still ask for, and what is not settled yet.
type Watcher struct {
	sign    byte
	within  logic.Interval
	horizon int
	parts   []*Watcher
	// unmatched holds, for each part, what it told of moments of which the
	// other part, which looks further ahead, has told nothing yet.
	unmatched [][]Reading
	behind    past
	ahead     future
}

// said is what a formula's parts say at one moment; of an only part both sides
// are the same.
type said struct {
	time        int
	left, right bool
}

// New makes a watcher that has seen no moment.
func New(f logic.Formula) *Watcher {
	w := &Watcher{sign: f.Sign, within: f.Within, horizon: f.Horizon(), unmatched: make([][]Reading, len(f.Parts))}
	for _, part := range f.Parts {
		w.parts = append(w.parts, New(part))
	}
	return w
}

// Next takes the moments that were released behind all those before, and the
// line, which is above them. It answers, in order, what is settled by this
// line and was not by one before: at the moments for which the line is above
// time and horizon together.
func (w *Watcher) Next(moments []logic.Moment, line int) []Reading {
	if len(w.parts) == 0 {
		return w.read(moments)
	}
	matched := w.match(moments, line)
	switch w.sign {
	case 'F', 'G', 'U':
		return w.lookAhead(matched, line)
	}
	settled := make([]Reading, len(matched))
	for i, at := range matched {
		settled[i] = Reading{Time: at.time, Holds: w.holds(at)}
	}
	return settled
}

// read tells of a formula in which nothing stands.
func (w *Watcher) read(moments []logic.Moment) []Reading {
	settled := make([]Reading, len(moments))
	for i, m := range moments {
		settled[i] = Reading{Time: m.Time, Holds: w.sign == 't' || m.Has(int(w.sign-'0'))}
	}
	return settled
}

// match lets every part see every moment, whatever the others say, as it
// remembers. It answers for the moments of which all parts have told.
func (w *Watcher) match(moments []logic.Moment, line int) []said {
	lengths := make([]int, len(w.parts))
	for i, part := range w.parts {
		w.unmatched[i] = append(w.unmatched[i], part.Next(moments, line)...)
		lengths[i] = len(w.unmatched[i])
	}
	matched := make([]said, several.Least(lengths...))
	for k := range matched {
		left := w.unmatched[0][k]
		right := w.unmatched[len(w.parts)-1][k]
		matched[k] = said{time: left.Time, left: left.Holds, right: right.Holds}
	}
	for i := range w.unmatched {
		w.unmatched[i] = w.unmatched[i][len(matched):]
	}
	return matched
}

// holds tells of a formula that asks nothing more of the future than its parts
// do.
func (w *Watcher) holds(at said) bool {
	switch w.sign {
	case '!':
		return !at.left
	case '&':
		return at.left && at.right
	case '|':
		return at.left || at.right
	case 'O':
		return w.behind.held(w.within, at.time, true, at.left)
	case 'H':
		return !w.behind.held(w.within, at.time, true, !at.left)
	}
	return w.behind.held(w.within, at.time, at.left, at.right)
}

// lookAhead tells of F, G and U at the moments whose horizon is past.
func (w *Watcher) lookAhead(matched []said, line int) []Reading {
	for _, at := range matched {
		switch w.sign {
		case 'F':
			w.ahead.add(at.time, true, at.left)
		case 'G':
			w.ahead.add(at.time, true, !at.left)
		case 'U':
			w.ahead.add(at.time, at.left, at.right)
		}
	}
	var settled []Reading
	for w.ahead.isSettled(line - w.horizon) {
		time, reached := w.ahead.next(w.within)
		settled = append(settled, Reading{Time: time, Holds: reached != (w.sign == 'G')})
	}
	return settled
}
