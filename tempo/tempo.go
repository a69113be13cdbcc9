// Package tempo: events in order, and formulas over time: see DOC.md.
package tempo

import (
	"slices"
	"sync"

	"tempo/api"
	"tempo/arrivals"
	"tempo/datagram"
	"tempo/logic"
	"tempo/watch"
)

// Horizon tells how far a formula looks into the future (P3).
func Horizon(formula string) (int, api.Errno) {
	f, ok := logic.Parse(formula)
	if !ok {
		return 0, api.ErrArg
	}
	return f.Horizon(), api.OK
}

// Monitor takes datagrams.
type Monitor struct {
	arrivals arrivals.Arrivals
	watched  []watched
	counts   [6]int
}

// watched is a formula's watcher, with the formula's number.
type watched struct {
	formula int
	watcher *watch.Watcher
}

// New makes a monitor (P4).
func New(c api.Config, formulas []string) (*Monitor, api.Errno) {
	if !isWithin(c.Sources, api.MaxSources) || !isWithin(c.Room, api.MaxRoom) || !isWithin(len(formulas), api.MaxFormulas) {
		return nil, api.ErrArg
	}
	m := &Monitor{arrivals: arrivals.New(c.Sources, c.Room)}
	for number, text := range formulas {
		f, ok := logic.Parse(text)
		if !ok {
			return nil, api.ErrArg
		}
		// No watcher can look ahead yet: better nothing told than a wrong thing.
		if !f.LooksAhead() {
			m.watched = append(m.watched, watched{formula: number, watcher: watch.New(f)})
		}
	}
	return m, api.OK
}

func isWithin(number, most int) bool {
	return number >= 1 && number <= most
}

// Feed takes a datagram (P5). New gives nil for what it refuses: there every
// source is none, so that every datagram is Malformed.
func (m *Monitor) Feed(datagram string) (api.Class, []api.Verdict) {
	if m == nil {
		return api.Malformed, nil
	}
	class := m.take(datagram)
	m.counts[class]++
	return class, m.tell()
}

func (m *Monitor) take(text string) api.Class {
	d, ok := datagram.Parse(text)
	if !ok {
		return api.Malformed
	}
	return m.arrivals.Take(d)
}

// tell lets the formulas go through what is released side by side, and puts
// together what they tell by their numbers (P9).
func (m *Monitor) tell() []api.Verdict {
	moments := m.arrivals.Release()
	if len(moments) == 0 {
		return nil
	}
	told := make([][]api.Verdict, len(m.watched))
	var all sync.WaitGroup
	for i, w := range m.watched {
		all.Go(func() { told[i] = w.over(moments) })
	}
	all.Wait()
	return slices.Concat(told...)
}

// over goes through moments that others read at the same time.
func (w watched) over(moments []logic.Moment) []api.Verdict {
	verdicts := make([]api.Verdict, 0, len(moments))
	for _, m := range moments {
		verdicts = append(verdicts, api.Verdict{Formula: w.formula, Time: m.Time, Holds: w.watcher.Next(m)})
	}
	return verdicts
}

// Finish ends it (P9): a datagram behind it is of a source that is closed, and
// nothing is released any more, so that the watchers may go.
func (m *Monitor) Finish() []api.Verdict {
	if m == nil {
		return nil
	}
	m.arrivals.CloseAll()
	told := m.tell()
	m.watched = nil
	return told
}

// Counts tells how many datagrams there were of each class (P10).
func (m *Monitor) Counts() [6]int {
	if m == nil {
		return [6]int{}
	}
	return m.counts
}

// Degraded tells whether something was lost (P10).
func (m *Monitor) Degraded() bool {
	counts := m.Counts()
	return counts[api.Late]+counts[api.Overflow] > 0
}
