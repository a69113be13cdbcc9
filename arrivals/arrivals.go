// Package arrivals: events as they come in, and the moments that they make in
// order.
package arrivals

import (
	"cmp"
	"slices"

	"tempo/api"
	"tempo/datagram"
	"tempo/logic"
	"tempo/several"
)

// Arrivals is what waits, what was seen, and how far the sources are.
type Arrivals struct {
	room    int
	sources []source
	waits   map[int]wait
	seen    map[origin]struct{}
}

type source struct {
	open bool
	mark int
}

// wait is what all events of one time come to.
type wait struct {
	set    byte
	events int
}

type origin struct {
	source byte
	number uint16
}

// New opens so many sources, their marks at 0; room is how many events may
// wait.
func New(sources, room int) Arrivals {
	a := Arrivals{room: room, sources: make([]source, sources), waits: map[int]wait{}, seen: map[origin]struct{}{}}
	for i := range a.sources {
		a.sources[i].open = true
	}
	return a
}

// Take tells the datagram's class (P5 to P7), and keeps what it says if that
// is Accepted.
func (a *Arrivals) Take(d datagram.Datagram) api.Class {
	switch {
	case int(d.Source) >= len(a.sources):
		return api.Malformed
	case !a.sources[d.Source].open:
		return api.Closed
	case d.Kind == datagram.Event:
		return a.takeEvent(d)
	case d.Kind == datagram.Mark:
		return a.takeMark(d)
	}
	a.sources[d.Source].open = false
	a.forget()
	return api.Accepted
}

func (a *Arrivals) takeEvent(d datagram.Datagram) api.Class {
	from := origin{source: d.Source, number: d.Number}
	if _, before := a.seen[from]; before {
		return api.Duplicate
	}
	if d.Time < a.Line() {
		return api.Late
	}
	if a.waiting() >= a.room {
		return api.Overflow
	}
	a.seen[from] = struct{}{}
	w := a.waits[d.Time]
	a.waits[d.Time] = wait{set: w.set | d.Set, events: w.events + 1}
	return api.Accepted
}

func (a *Arrivals) takeMark(d datagram.Datagram) api.Class {
	from := &a.sources[d.Source]
	if d.Time <= from.mark {
		return api.Duplicate
	}
	from.mark = d.Time
	return api.Accepted
}

// CloseAll closes the sources that are open still.
func (a *Arrivals) CloseAll() {
	for i := range a.sources {
		a.sources[i].open = false
	}
	a.forget()
}

// Release answers the moments below the line in order, and lets them wait no
// more (P8).
func (a *Arrivals) Release() []logic.Moment {
	line := a.Line()
	var moments []logic.Moment
	for time, w := range a.waits {
		if time < line {
			moments = append(moments, logic.Moment{Time: time, Set: w.set})
			delete(a.waits, time)
		}
	}
	slices.SortFunc(moments, func(m, n logic.Moment) int { return cmp.Compare(m.Time, n.Time) })
	return moments
}

// IsOpen tells whether any source is.
func (a *Arrivals) IsOpen() bool {
	return slices.ContainsFunc(a.sources, func(s source) bool { return s.open })
}

// Line is above everything if no source is open (P6).
func (a *Arrivals) Line() int {
	var marks []int
	for _, s := range a.sources {
		if s.open {
			marks = append(marks, s.mark)
		}
	}
	return several.Least(marks...)
}

func (a *Arrivals) waiting() int {
	var events []int
	for _, w := range a.waits {
		events = append(events, w.events)
	}
	return several.Sum(events...)
}

// forget drops what was seen of sources that are closed: nothing is held
// against it any more. What stays goes into a new map, as the old one would
// keep its room.
func (a *Arrivals) forget() {
	seen := map[origin]struct{}{}
	for from := range a.seen {
		if a.sources[from.source].open {
			seen[from] = struct{}{}
		}
	}
	a.seen = seen
}
