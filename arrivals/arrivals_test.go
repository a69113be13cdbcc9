package arrivals

import (
	"slices"
	"testing"

	"tempo/api"
	"tempo/datagram"
	"tempo/logic"
)

func event(source byte, number uint16, time int, set byte) datagram.Datagram {
	return datagram.Datagram{Kind: datagram.Event, Source: source, Number: number, Time: time, Set: set}
}

func mark(source byte, time int) datagram.Datagram {
	return datagram.Datagram{Kind: datagram.Mark, Source: source, Time: time}
}

func shut(source byte) datagram.Datagram {
	return datagram.Datagram{Kind: datagram.Close, Source: source}
}

func take(t *testing.T, a *Arrivals, d datagram.Datagram, want api.Class) {
	t.Helper()
	if got := a.Take(d); got != want {
		t.Errorf("Take(%+v) = %d, want %d", d, got, want)
	}
}

func release(t *testing.T, a *Arrivals, want ...logic.Moment) {
	t.Helper()
	if got := a.Release(); !slices.Equal(got, want) {
		t.Errorf("Release() = %+v, want %+v", got, want)
	}
	for time := range a.waits {
		if time < a.Line() {
			t.Errorf("P8: %d waits below the line", time)
		}
	}
}

func TestTheLine(t *testing.T) {
	a := New(3, 1)
	for _, step := range []struct {
		d    datagram.Datagram
		line int
	}{
		{mark(0, 10), 0}, {mark(1, 5), 0}, {mark(2, 7), 5}, {mark(1, 20), 7}, {mark(2, 30), 10},
		{shut(0), 20}, {shut(2), 20}, {mark(1, api.MaxTime), api.MaxTime},
	} {
		take(t, &a, step.d, api.Accepted)
		if !a.IsOpen() {
			t.Errorf("behind %+v no source is open", step.d)
		}
		if got := a.Line(); got != step.line {
			t.Errorf("P6: behind %+v the line is %d, want %d", step.d, got, step.line)
		}
	}
	take(t, &a, shut(1), api.Accepted)
	if a.IsOpen() {
		t.Errorf("a source is open")
	}
	if a.Line() <= api.MaxTime+api.MaxSize*api.MaxBound {
		t.Errorf("P6: with no source open the line is %d", a.Line())
	}
}

func TestReleaseIsInOrder(t *testing.T) {
	a := New(1, api.MaxRoom)
	var want []logic.Moment
	for i := range api.MaxRoom {
		time := (i*37)%api.MaxRoom + 1
		take(t, &a, event(0, uint16(i), time, byte(time)), api.Accepted)
		want = append(want, logic.Moment{Time: i + 1, Set: byte(i + 1)})
	}
	release(t, &a)
	take(t, &a, mark(0, 1), api.Accepted)
	release(t, &a)
	take(t, &a, mark(0, 11), api.Accepted)
	release(t, &a, want[:10]...)
	release(t, &a)
	a.CloseAll()
	release(t, &a, want[10:]...)
	release(t, &a)
}

func TestEventsOfOneTimeMakeOneMoment(t *testing.T) {
	a := New(2, 4)
	take(t, &a, event(0, 1, 7, 1), api.Accepted)
	take(t, &a, event(0, 2, 7, 4), api.Accepted)
	take(t, &a, event(1, 1, 7, 5), api.Accepted)
	if a.waiting() != 3 || len(a.waits) != 1 {
		t.Errorf("%d events wait at %d times, want 3 at 1", a.waiting(), len(a.waits))
	}
	a.CloseAll()
	release(t, &a, logic.Moment{Time: 7, Set: 5})
	if a.waiting() != 0 {
		t.Errorf("%d events wait still", a.waiting())
	}
}

func TestOnlyAcceptedEventsAreSeen(t *testing.T) {
	a := New(2, 1)
	take(t, &a, mark(0, 5), api.Accepted)
	take(t, &a, mark(1, 5), api.Accepted)
	take(t, &a, event(0, 1, 4, 1), api.Late)
	take(t, &a, event(0, 1, 5, 1), api.Accepted)
	take(t, &a, event(0, 2, 5, 1), api.Overflow)
	take(t, &a, event(0, 1, 4, 1), api.Duplicate)
	take(t, &a, event(1, 1, 4, 1), api.Late)
	take(t, &a, event(1, 1, 5, 1), api.Overflow)
	if len(a.seen) != 1 {
		t.Errorf("seen are %v", a.seen)
	}
}

func TestWhatClosedSourcesSentIsForgotten(t *testing.T) {
	a := New(3, api.MaxRoom)
	for source := range byte(3) {
		for number := range uint16(3 + source) {
			take(t, &a, event(source, number, 5, 1), api.Accepted)
		}
	}
	take(t, &a, shut(1), api.Accepted)
	if len(a.seen) != 3+5 {
		t.Errorf("seen are %v", a.seen)
	}
	take(t, &a, event(0, 2, 5, 1), api.Duplicate)
	take(t, &a, event(2, 4, 5, 1), api.Duplicate)
	take(t, &a, event(1, 2, 5, 1), api.Closed)
	a.CloseAll()
	if len(a.seen) != 0 {
		t.Errorf("seen are %v", a.seen)
	}
}

func TestSourcesThatAreNone(t *testing.T) {
	for sources := 1; sources <= api.MaxSources; sources++ {
		a := New(sources, 1)
		for source := sources; source < 256; source++ {
			take(t, &a, event(byte(source), 1, 5, 1), api.Malformed)
			take(t, &a, mark(byte(source), 5), api.Malformed)
			take(t, &a, shut(byte(source)), api.Malformed)
		}
		take(t, &a, event(byte(sources-1), 1, 5, 1), api.Accepted)
		take(t, &a, shut(byte(sources-1)), api.Accepted)
	}
}
