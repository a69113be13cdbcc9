// Package tempo: events in order, and formulas over time: see DOC.md.
package tempo

import (
	"slices"
	"sync"

	"tempo/api"
	"tempo/arrivals"
	"tempo/datagram"
	"tempo/logic"
	"tempo/watch"
)

// Horizon tells how far a formula looks into the future (P3).
func Horizon(formula string) (int, api.Errno) {
	f, ok := logic.Parse(formula)
	if !ok {
		return 0, api.ErrArg
	}
	return f.Horizon(), api.OK
}

// Monitor takes datagrams.
type Monitor struct {
	arrivals arrivals.Arrivals
	watchers []*watch.Watcher
	counts   [6]int
}

// New makes a monitor (P4).
func New(c api.Config, formulas []string) (*Monitor, api.Errno) {
	if !isWithin(c.Sources, api.MaxSources) || !isWithin(c.Room, api.MaxRoom) || !isWithin(len(formulas), api.MaxFormulas) {
		return nil, api.ErrArg
	}
	m := &Monitor{arrivals: arrivals.New(c.Sources, c.Room)}
	for _, text := range formulas {
		f, ok := logic.Parse(text)
		if !ok {
			return nil, api.ErrArg
		}
		m.watchers = append(m.watchers, watch.New(f))
	}
	return m, api.OK
}

func isWithin(number, most int) bool {
	return number >= 1 && number <= most
}

// Feed takes a datagram (P5). New gives nil for what it refuses: there every
// source is none, so that every datagram is Malformed.
func (m *Monitor) Feed(datagram string) (api.Class, []api.Verdict) {
	if m == nil {
		return api.Malformed, nil
	}
	before := m.arrivals.Line()
	class := m.take(datagram)
	m.counts[class]++
	if m.arrivals.Line() == before {
		// Nothing is released and nothing settled but by a line that rises.
		return class, nil
	}
	return class, m.tell()
}

func (m *Monitor) take(text string) api.Class {
	d, ok := datagram.Parse(text)
	if !ok {
		return api.Malformed
	}
	return m.arrivals.Take(d)
}

// tell lets the formulas go through what is released side by side, and puts
// together what they tell by their numbers (P9).
func (m *Monitor) tell() []api.Verdict {
	moments, line := m.arrivals.Release(), m.arrivals.Line()
	told := make([][]api.Verdict, len(m.watchers))
	var all sync.WaitGroup
	for formula, watcher := range m.watchers {
		all.Go(func() { told[formula] = verdicts(formula, watcher.Next(moments, line)) })
	}
	all.Wait()
	if !m.arrivals.IsOpen() {
		// No moment comes any more, and all is told: the watchers may go.
		m.watchers = nil
	}
	return slices.Concat(told...)
}

func verdicts(formula int, readings []watch.Reading) []api.Verdict {
	told := make([]api.Verdict, len(readings))
	for i, r := range readings {
		told[i] = api.Verdict{Formula: formula, Time: r.Time, Holds: r.Holds}
	}
	return told
}

// Finish ends it (P9): a datagram behind it is of a source that is closed.
func (m *Monitor) Finish() []api.Verdict {
	if m == nil {
		return nil
	}
	m.arrivals.CloseAll()
	return m.tell()
}

// Counts tells how many datagrams there were of each class (P10).
func (m *Monitor) Counts() [6]int {
	if m == nil {
		return [6]int{}
	}
	return m.counts
}

// Degraded tells whether something was lost (P10).
func (m *Monitor) Degraded() bool {
	counts := m.Counts()
	return counts[api.Late]+counts[api.Overflow] > 0
}
