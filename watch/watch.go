// Package watch: formulas that look into no future, watched moment by moment.
package watch

import "tempo/logic"

// Watcher goes through the moments in order with one formula. It remembers of
// the past only what the formula can still ask for.
type Watcher struct {
	sign   byte
	within logic.Interval
	parts  []*Watcher
	// since holds, in order, the times of the moments that may be the one for
	// which O, H and S look.
	since []int
}

// New makes a watcher that has seen no moment. Of a formula that looks ahead
// it can't tell what holds.
func New(f logic.Formula) *Watcher {
	w := &Watcher{sign: f.Sign, within: f.Within}
	for _, part := range f.Parts {
		w.parts = append(w.parts, New(part))
	}
	return w
}

// Next tells whether the formula holds at the moment, which is behind all
// moments before.
func (w *Watcher) Next(m logic.Moment) bool {
	var parts [2]bool
	for i, part := range w.parts {
		// Every part sees every moment, whatever the others say: it remembers.
		parts[i] = part.Next(m)
	}
	left, right := parts[0], parts[1]
	switch w.sign {
	case 't':
		return true
	case '!':
		return !left
	case '&':
		return left && right
	case '|':
		return left || right
	case 'O':
		return w.held(m.Time, true, left)
	case 'H':
		return !w.held(m.Time, true, !left)
	case 'S':
		return w.held(m.Time, left, right)
	}
	return m.Has(int(w.sign - '0'))
}

// held tells whether, at a distance within the interval, there was a moment at
// which begins was true, and lasts was true at all moments behind it.
func (w *Watcher) held(now int, lasts, begins bool) bool {
	if !lasts {
		w.since = nil
	}
	if begins {
		w.since = append(w.since, now)
	}
	// Of those that are far enough the last one stays near enough the longest:
	// the others are not needed, so that no more wait than fit below Low.
	for len(w.since) > 1 && now-w.since[1] >= w.within.Low {
		w.since = w.since[1:]
	}
	return len(w.since) > 0 && w.within.Has(now-w.since[0])
}
