package tempo_test

import (
	"encoding/binary"
	"slices"
	"testing"

	"tempo/api"
	"tempo/tempo"
)

func withTime(ahead []byte, time uint64, behind ...byte) string {
	return string(append(binary.BigEndian.AppendUint64(ahead, time), behind...))
}

func event(source, number, time, set int) string {
	return withTime([]byte{1, byte(source), byte(number >> 8), byte(number)}, uint64(time), byte(set))
}

func mark(source, time int) string {
	return withTime([]byte{2, byte(source)}, uint64(time))
}

func shut(source int) string { return string([]byte{3, byte(source)}) }

func holds(formula, time int) api.Verdict {
	return api.Verdict{Formula: formula, Time: time, Holds: true}
}

func fails(formula, time int) api.Verdict {
	return api.Verdict{Formula: formula, Time: time}
}

func newMonitor(t *testing.T, sources, room int, formulas ...string) *tempo.Monitor {
	t.Helper()
	m, e := tempo.New(api.Config{Sources: sources, Room: room}, formulas)
	if m == nil || e != api.OK {
		t.Fatalf("P4: New(%d, %d, %q) = %v, %d", sources, room, formulas, m, e)
	}
	return m
}

func wantTold(t *testing.T, promise string, got []api.Verdict, want ...api.Verdict) {
	t.Helper()
	if !slices.Equal(got, want) {
		t.Errorf("%s: told is %v, want %v", promise, got, want)
	}
}

func feed(t *testing.T, promise string, m *tempo.Monitor, datagram string, class api.Class, want ...api.Verdict) {
	t.Helper()
	got, told := m.Feed(datagram)
	if got != class {
		t.Errorf("%s: Feed(%.40q) is of the class %d, want %d", promise, datagram, got, class)
	}
	wantTold(t, promise, told, want...)
}

func wantCounts(t *testing.T, m *tempo.Monitor, degraded bool, want ...int) {
	t.Helper()
	if got := m.Counts(); !slices.Equal(got[:], want) {
		t.Errorf("P10: Counts() = %v, want %v", got, want)
	}
	if m.Degraded() != degraded {
		t.Errorf("P10: Degraded() = %v", !degraded)
	}
}

func TestNewAtTheBounds(t *testing.T) {
	for sources := -3; sources <= api.MaxSources+3; sources++ {
		for room := -3; room <= api.MaxRoom+3; room++ {
			m, e := tempo.New(api.Config{Sources: sources, Room: room}, []string{"0"})
			fits := sources >= 1 && sources <= 4 && room >= 1 && room <= 64
			if (e == api.OK) != fits || (m != nil) != fits || !fits && e != api.ErrArg {
				t.Errorf("P4: New(%d, %d): %v, %d", sources, room, m, e)
			}
		}
	}
	for _, c := range []api.Config{{}, {Sources: 1}, {Room: 1}, {Sources: 1 << 32, Room: 1}, {Sources: 1<<32 + 1, Room: 1}, {Sources: 1, Room: 1 << 62}, {Sources: -1 << 63, Room: 1}, {Sources: 1, Room: 1<<63 - 1}} {
		if m, e := tempo.New(c, []string{"0"}); m != nil || e != api.ErrArg {
			t.Errorf("P4: New(%+v): %v, %d", c, m, e)
		}
	}
}

func TestNewOfLists(t *testing.T) {
	c := api.Config{Sources: 1, Room: 1}
	for number := range 9 {
		m, e := tempo.New(c, slices.Repeat([]string{"0"}, number))
		fits := number >= 1 && number <= 4
		if (e == api.OK) != fits || (m != nil) != fits || !fits && e != api.ErrArg {
			t.Errorf("P4: New of %d formulas: %v, %d", number, m, e)
		}
	}
	if m, e := tempo.New(c, make([]string, 1_000_000)); m != nil || e != api.ErrArg {
		t.Errorf("P4: New of very many formulas: %v, %d", m, e)
	}
	for _, wrong := range []string{"", "8", "!", "(0&1", "0&1", "F[1,i]0", "O[5,4]0", "00"} {
		for number := 1; number <= 4; number++ {
			for at := range number {
				formulas := slices.Repeat([]string{"t"}, number)
				formulas[at] = wrong
				if m, e := tempo.New(c, formulas); m != nil || e != api.ErrArg {
					t.Errorf("P4: New of %q: %v, %d", formulas, m, e)
				}
			}
		}
	}
}

func TestNewOfFormulasOfEachKind(t *testing.T) {
	for _, formula := range manyFormulas() {
		newMonitor(t, 1, 1, formula)
		newMonitor(t, 4, 64, "t", formula, formula, "t")
	}
}

func TestMarksBeginAtZeroAndSourcesOpen(t *testing.T) {
	for sources := 1; sources <= api.MaxSources; sources++ {
		for source := range sources {
			m := newMonitor(t, sources, 2, "0")
			feed(t, "P4", m, event(source, 1, 0, 1), api.Accepted)
			feed(t, "P4", m, mark(source, 0), api.Duplicate)
			feed(t, "P4", m, mark(source, 1), api.Accepted, told(sources == 1, holds(0, 0))...)
			feed(t, "P4", m, shut(source), api.Accepted)
		}
	}
}

func told(is bool, verdicts ...api.Verdict) []api.Verdict {
	if !is {
		return nil
	}
	return verdicts
}

func TestFormulasAreNumberedFromZero(t *testing.T) {
	m := newMonitor(t, 1, 1, "0", "!0", "(0|1)", "(0&1)")
	feed(t, "P4", m, event(0, 1, 5, 1), api.Accepted)
	feed(t, "P4", m, mark(0, 6), api.Accepted, holds(0, 5), fails(1, 5), holds(2, 5), fails(3, 5))
}

// The document's second monitor.
func TestTheExample(t *testing.T) {
	m := newMonitor(t, 2, 3, "0", "F[1,2]1")
	feed(t, "P6", m, event(0, 1, 5, 1), api.Accepted)
	feed(t, "P6", m, event(0, 1, 5, 1), api.Duplicate)
	feed(t, "P6", m, event(1, 1, 6, 2), api.Accepted)
	feed(t, "P7", m, mark(0, 9), api.Accepted)
	feed(t, "P9", m, mark(1, 6), api.Accepted, holds(0, 5))
	feed(t, "P6", m, event(0, 2, 5, 0), api.Late)
	feed(t, "P6", m, event(1, 2, 6, 1), api.Accepted)
	feed(t, "P9", m, mark(1, 8), api.Accepted, holds(0, 6), holds(1, 5))
	feed(t, "P9", m, shut(1), api.Accepted, fails(1, 6))
	feed(t, "P5", m, event(1, 3, 9, 1), api.Closed)
	feed(t, "P6", m, event(0, 9, 9, 0), api.Accepted)
	wantTold(t, "P9", m.Finish(), fails(0, 9), fails(1, 9))
	wantCounts(t, m, true, 8, 1, 0, 1, 0, 1)
}
