package tempo_test

import (
	"strings"
	"testing"

	"tempo/api"
)

const maxTime = api.MaxTime

func TestMalformed(t *testing.T) {
	whole := []string{event(1, 1, 5, 1), mark(1, 5), shut(1)}
	wrong := []string{"", strings.Repeat("\x01", 5_000_000), strings.Repeat("\x02", 5_000_000), strings.Repeat("\x03", 5_000_000)}
	for _, datagram := range whole {
		for end := range len(datagram) {
			wrong = append(wrong, datagram[:end])
		}
		for b := range 256 {
			wrong = append(wrong, datagram+string([]byte{byte(b)}))
		}
		for first := range 256 {
			if first < 1 || first > 3 {
				wrong = append(wrong, string([]byte{byte(first)})+datagram[1:])
			}
		}
		for source := 2; source < 256; source++ {
			wrong = append(wrong, datagram[:1]+string([]byte{byte(source)})+datagram[2:])
		}
	}
	for _, time := range []uint64{1<<62 + 1, 1<<62 + 1<<20, 1<<63 - 1, 1 << 63, 1<<63 + 5, 1<<64 - 1} {
		wrong = append(wrong, withTime([]byte{1, 0, 0, 1}, time, 1), withTime([]byte{2, 0}, time))
	}
	m := newMonitor(t, 2, 3, "0")
	for _, datagram := range wrong {
		feed(t, "P5", m, datagram, api.Malformed)
	}
	wantCounts(t, m, false, 0, 0, len(wrong), 0, 0, 0)
	for source := range 2 {
		feed(t, "P5", m, event(source, 1, 5, 1), api.Accepted)
		feed(t, "P5", m, mark(source, 5), api.Accepted)
		feed(t, "P5", m, shut(source), api.Accepted, told(source == 1, holds(0, 5))...)
	}
	for _, datagram := range wrong {
		feed(t, "P5", m, datagram, api.Malformed)
	}
	wantTold(t, "P9", m.Finish())
	for _, datagram := range wrong {
		feed(t, "P5", m, datagram, api.Malformed)
	}
	wantCounts(t, m, false, 6, 0, 3*len(wrong), 0, 0, 0)
}

func TestTheGreatestTimeIsWellFormed(t *testing.T) {
	m := newMonitor(t, 1, 3, "0", "O[1,1]0", "O[1000,i]0")
	feed(t, "P5", m, event(0, 1, maxTime, 1), api.Accepted)
	feed(t, "P5", m, event(0, 2, maxTime-1, 1), api.Accepted)
	feed(t, "P5", m, event(0, 3, 0, 1), api.Accepted)
	feed(t, "P5", m, mark(0, maxTime), api.Accepted,
		holds(0, 0), holds(0, maxTime-1), fails(1, 0), fails(1, maxTime-1), fails(2, 0), holds(2, maxTime-1))
	feed(t, "P7", m, mark(0, maxTime), api.Duplicate)
	feed(t, "P6", m, event(0, 4, maxTime-1, 1), api.Late)
	feed(t, "P6", m, event(0, 5, maxTime, 0), api.Accepted)
	feed(t, "P9", m, shut(0), api.Accepted, holds(0, maxTime), holds(1, maxTime), holds(2, maxTime))
}

// What is refused changes nothing but its class's count.
func TestRefusedChangesNothing(t *testing.T) {
	m := newMonitor(t, 2, 2, "(0|1)")
	feed(t, "P5", m, event(0, 1, 5, 1), api.Accepted)
	feed(t, "P5", m, mark(0, 4), api.Accepted)
	feed(t, "P5", m, mark(1, 5), api.Accepted)
	for range 3 {
		feed(t, "P5", m, event(0, 1, 6, 2), api.Duplicate)
		feed(t, "P5", m, mark(0, 3), api.Duplicate)
		feed(t, "P5", m, mark(0, 4), api.Duplicate)
		feed(t, "P5", m, mark(1, 0), api.Duplicate)
		feed(t, "P5", m, event(1, 1, 3, 2), api.Late)
	}
	feed(t, "P5", m, event(1, 1, 5, 0), api.Accepted)
	for range 3 {
		feed(t, "P5", m, event(0, 2, 7, 2), api.Overflow)
		feed(t, "P5", m, event(1, 2, 3, 2), api.Late)
		feed(t, "P5", m, event(1, 1, 3, 2), api.Duplicate)
	}
	feed(t, "P5", m, shut(0), api.Accepted)
	for range 3 {
		feed(t, "P5", m, event(0, 9, 7, 2), api.Closed)
		feed(t, "P5", m, mark(0, 9), api.Closed)
		feed(t, "P5", m, shut(0), api.Closed)
	}
	feed(t, "P5", m, mark(1, 8), api.Accepted, holds(0, 5))
	wantTold(t, "P9", m.Finish())
	wantCounts(t, m, true, 6, 15, 0, 6, 3, 9)
}

func TestDuplicatesAreBySourceAndNumber(t *testing.T) {
	m := newMonitor(t, 4, 64, "t")
	for _, number := range []int{0, 1, 255, 256, 257, 65280, 65535} {
		for source := range 4 {
			feed(t, "P6", m, event(source, number, 5, 1), api.Accepted)
			feed(t, "P6", m, event(source, number, 5, 1), api.Duplicate)
			feed(t, "P6", m, event(source, number, 6, 2), api.Duplicate)
		}
	}
	for source := range 4 {
		feed(t, "P7", m, mark(source, 10), api.Accepted, told(source == 3, holds(0, 5))...)
	}
	for source := range 4 {
		feed(t, "P6", m, event(source, 256, 5, 1), api.Duplicate)
		feed(t, "P6", m, event(source, 2, 9, 1), api.Late)
		feed(t, "P6", m, event(source, 2, 10, 1), api.Accepted)
	}
}

// The order of the classes of an event: Duplicate, Late, Overflow.
func TestTheFirstClassThatFits(t *testing.T) {
	m := newMonitor(t, 1, 1, "0")
	feed(t, "P7", m, mark(0, 5), api.Accepted)
	feed(t, "P6", m, event(0, 1, 5, 1), api.Accepted)
	feed(t, "P6", m, event(0, 1, 4, 1), api.Duplicate)
	feed(t, "P6", m, event(0, 1, 6, 1), api.Duplicate)
	feed(t, "P6", m, event(0, 2, 4, 1), api.Late)
	feed(t, "P6", m, event(0, 2, 5, 1), api.Overflow)
	feed(t, "P6", m, event(0, 2, 6, 1), api.Overflow)
	feed(t, "P7", m, mark(0, 6), api.Accepted, holds(0, 5))
	feed(t, "P6", m, event(0, 2, 5, 1), api.Late)
	feed(t, "P6", m, event(0, 2, 6, 1), api.Accepted)
	feed(t, "P6", m, event(0, 2, 6, 1), api.Duplicate)
	wantCounts(t, m, true, 4, 3, 0, 2, 2, 0)
}

func TestRoomCountsEvents(t *testing.T) {
	for _, room := range []int{1, 2, 3, 63, 64} {
		m := newMonitor(t, 2, room, "0")
		for number := range room { // three at each time
			feed(t, "P6", m, event(number%2, number, 5+number/3, 1), api.Accepted)
		}
		feed(t, "P6", m, event(0, 1000, 5, 1), api.Overflow)
		feed(t, "P6", m, event(1, 1000, maxTime, 1), api.Overflow)
		wantCounts(t, m, true, room, 0, 0, 0, 2, 0)
		m.Feed(mark(0, 1000))
		m.Feed(mark(1, 1000))
		for number := range room {
			feed(t, "P8", m, event(0, 2000+number, 1000, 1), api.Accepted)
		}
		feed(t, "P6", m, event(0, 1000, 1000, 1), api.Overflow)
	}
}

func TestRoomIsFreeForWhatIsReleased(t *testing.T) {
	m := newMonitor(t, 1, 3, "0")
	feed(t, "P6", m, event(0, 1, 5, 1), api.Accepted)
	feed(t, "P6", m, event(0, 2, 5, 1), api.Accepted)
	feed(t, "P6", m, event(0, 3, 7, 1), api.Accepted)
	feed(t, "P6", m, event(0, 4, 7, 1), api.Overflow)
	feed(t, "P8", m, mark(0, 5), api.Accepted)
	feed(t, "P6", m, event(0, 4, 7, 1), api.Overflow)
	feed(t, "P8", m, mark(0, 6), api.Accepted, holds(0, 5))
	feed(t, "P6", m, event(0, 4, 7, 1), api.Accepted)
	feed(t, "P6", m, event(0, 5, 6, 1), api.Accepted)
	feed(t, "P6", m, event(0, 6, 6, 1), api.Overflow)
}

func TestTheLineIsTheLeastMarkOfOpenSources(t *testing.T) {
	m := newMonitor(t, 4, 8, "0")
	for time := 1; time <= 8; time++ {
		feed(t, "P6", m, event(0, time, time, time), api.Accepted)
	}
	feed(t, "P6", m, mark(0, 3), api.Accepted)
	feed(t, "P6", m, mark(1, 5), api.Accepted)
	feed(t, "P6", m, mark(2, 4), api.Accepted)
	feed(t, "P6", m, mark(3, 2), api.Accepted, holds(0, 1))
	feed(t, "P6", m, mark(3, 9), api.Accepted, fails(0, 2))
	feed(t, "P6", m, event(3, 1, 2, 0), api.Late)
	feed(t, "P6", m, shut(0), api.Accepted, holds(0, 3))
	feed(t, "P6", m, shut(3), api.Accepted)
	feed(t, "P6", m, shut(2), api.Accepted, fails(0, 4))
	feed(t, "P6", m, event(1, 1, 4, 0), api.Late)
	feed(t, "P6", m, event(1, 1, 5, 0), api.Accepted)
	feed(t, "P6", m, mark(1, 7), api.Accepted, holds(0, 5), fails(0, 6))
	feed(t, "P6", m, shut(1), api.Accepted, holds(0, 7), fails(0, 8))
	for source := range 4 {
		feed(t, "P5", m, event(source, 99, maxTime, 0), api.Closed)
	}
	wantTold(t, "P9", m.Finish())
}

func TestMarksRise(t *testing.T) {
	m := newMonitor(t, 2, 1, "0")
	mark0 := 0
	for _, time := range []int{0, 1, 1, 0, 5, 4, 5, 6, 1 << 32, 7, 1<<32 - 1, 1<<32 + 1, maxTime, maxTime, maxTime - 1, 0} {
		class := api.Duplicate
		if time > mark0 {
			class, mark0 = api.Accepted, time
		}
		feed(t, "P7", m, mark(0, time), class)
	}
	feed(t, "P7", m, mark(1, 1), api.Accepted)
	feed(t, "P6", m, event(0, 1, 0, 1), api.Late)
	feed(t, "P6", m, event(0, 1, 1, 1), api.Accepted) // below its own source's mark
}

func TestClosedSources(t *testing.T) {
	m := newMonitor(t, 2, 3, "0")
	feed(t, "P6", m, event(0, 1, 5, 1), api.Accepted)
	feed(t, "P7", m, shut(0), api.Accepted)
	feed(t, "P5", m, event(0, 1, 5, 1), api.Closed)
	feed(t, "P5", m, event(0, 2, 5, 1), api.Closed)
	feed(t, "P5", m, mark(0, 0), api.Closed)
	feed(t, "P5", m, mark(0, 5), api.Closed)
	feed(t, "P5", m, shut(0), api.Closed)
	feed(t, "P5", m, shut(0)+"\x00", api.Malformed)
	feed(t, "P6", m, event(1, 1, 5, 0), api.Accepted)
	feed(t, "P7", m, mark(1, 6), api.Accepted, holds(0, 5))
	feed(t, "P7", m, shut(1), api.Accepted)
	feed(t, "P5", m, shut(1), api.Closed)
	wantCounts(t, m, false, 5, 0, 1, 0, 0, 6)
}

func TestFinish(t *testing.T) {
	m := newMonitor(t, 3, 3, "0", "H[1,i]0")
	feed(t, "P6", m, event(2, 1, 9, 0), api.Accepted)
	feed(t, "P6", m, event(0, 1, 5, 1), api.Accepted)
	feed(t, "P7", m, shut(1), api.Accepted)
	wantTold(t, "P9", m.Finish(), holds(0, 5), fails(0, 9), holds(1, 5), holds(1, 9))
	for range 3 {
		wantTold(t, "P9", m.Finish())
	}
	for source := range 3 {
		feed(t, "P5", m, event(source, 1, 5, 1), api.Closed)
		feed(t, "P5", m, event(source, 2, maxTime, 1), api.Closed)
		feed(t, "P5", m, mark(source, maxTime), api.Closed)
		feed(t, "P5", m, shut(source), api.Closed)
	}
	feed(t, "P5", m, shut(3), api.Malformed)
	feed(t, "P5", m, "", api.Malformed)
	wantTold(t, "P9", m.Finish())
	wantCounts(t, m, false, 3, 0, 2, 0, 0, 12)
}

func TestFinishOfNothing(t *testing.T) {
	m := newMonitor(t, 1, 1, "t")
	wantTold(t, "P9", m.Finish())
	wantTold(t, "P9", m.Finish())
	wantCounts(t, m, false, 0, 0, 0, 0, 0, 0)
}

func TestDegraded(t *testing.T) {
	m := newMonitor(t, 1, 1, "t")
	feed(t, "P5", m, "", api.Malformed)
	feed(t, "P7", m, mark(0, 5), api.Accepted)
	feed(t, "P7", m, mark(0, 5), api.Duplicate)
	wantCounts(t, m, false, 1, 1, 1, 0, 0, 0)
	feed(t, "P6", m, event(0, 1, 4, 1), api.Late)
	wantCounts(t, m, true, 1, 1, 1, 1, 0, 0)
	m.Finish()
	feed(t, "P5", m, shut(0), api.Closed)
	wantCounts(t, m, true, 1, 1, 1, 1, 0, 1)

	full := newMonitor(t, 1, 1, "t")
	feed(t, "P6", full, event(0, 1, 4, 1), api.Accepted)
	wantCounts(t, full, false, 1, 0, 0, 0, 0, 0)
	feed(t, "P6", full, event(0, 2, 4, 1), api.Overflow)
	wantCounts(t, full, true, 1, 0, 0, 0, 1, 0)
}
