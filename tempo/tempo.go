// Package tempo: events in order, and formulas over time: see DOC.md.
package tempo

import (
	"tempo/api"
	"tempo/logic"
)

// Horizon tells how far a formula looks into the future (P3).
func Horizon(formula string) (int, api.Errno) {
	f, ok := logic.Parse(formula)
	if !ok {
		return 0, api.ErrArg
	}
	return f.Horizon(), api.OK
}

// Monitor takes datagrams.
type Monitor struct{}

// New makes a monitor (P4).
func New(c api.Config, formulas []string) (*Monitor, api.Errno) { return nil, api.OK }

// Feed takes a datagram (P5).
func (m *Monitor) Feed(datagram string) (api.Class, []api.Verdict) { return 0, nil }

// Finish ends it (P9).
func (m *Monitor) Finish() []api.Verdict { return nil }

// Counts tells how many datagrams there were of each class (P10).
func (m *Monitor) Counts() [6]int { return [6]int{} }

// Degraded tells whether something was lost (P10).
func (m *Monitor) Degraded() bool { return false }
