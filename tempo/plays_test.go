package tempo_test

import (
	"encoding/binary"
	"math"
	"math/rand/v2"
	"slices"
	"testing"

	"tempo/api"
	"tempo/tempo"
)

// The model is a second monitor, made of the document's words as they stand:
// it keeps all that was ever accepted, and asks formulas by their definitions.
type model struct {
	room     int
	marks    []int
	open     []bool
	accepted []sighting
	told     map[api.Verdict]bool
	formulas []meaning
	counts   [6]int
}

type sighting struct {
	source, number, time int
	set                  byte
	waits                bool
}

type moment struct {
	time int
	set  byte
}

// meaning is a formula's text, its horizon, and what it says at a moment.
type meaning struct {
	text    string
	horizon int
	holds   func(all []moment, i int) bool
}

func newModel(sources, room int, formulas []meaning) *model {
	return &model{room: room, marks: make([]int, sources), open: slices.Repeat([]bool{true}, sources), told: map[api.Verdict]bool{}, formulas: formulas}
}

func (m *model) line() int {
	line := math.MaxInt
	for source, open := range m.open {
		if open {
			line = min(line, m.marks[source])
		}
	}
	return line
}

func (m *model) feed(datagram string) (api.Class, []api.Verdict) {
	class := m.classOf([]byte(datagram))
	m.counts[class]++
	return class, m.tell()
}

func (m *model) classOf(d []byte) api.Class {
	var time uint64
	switch {
	case len(d) == 13 && d[0] == 1:
		time = binary.BigEndian.Uint64(d[4:])
	case len(d) == 10 && d[0] == 2:
		time = binary.BigEndian.Uint64(d[2:])
	case len(d) == 2 && d[0] == 3:
	default:
		return api.Malformed
	}
	source := int(d[1])
	if source >= len(m.marks) || time > 1<<62 {
		return api.Malformed
	}
	if !m.open[source] {
		return api.Closed
	}
	switch d[0] {
	case 1:
		return m.event(sighting{source, int(binary.BigEndian.Uint16(d[2:])), int(time), d[12], true})
	case 2:
		if int(time) <= m.marks[source] {
			return api.Duplicate
		}
		m.marks[source] = int(time)
	case 3:
		m.open[source] = false
	}
	return api.Accepted
}

func (m *model) event(s sighting) api.Class {
	waiting := 0
	for _, before := range m.accepted {
		if before.source == s.source && before.number == s.number {
			return api.Duplicate
		}
		if before.waits {
			waiting++
		}
	}
	if s.time < m.line() {
		return api.Late
	}
	if waiting >= m.room {
		return api.Overflow
	}
	m.accepted = append(m.accepted, s)
	return api.Accepted
}

func (m *model) moments() []moment {
	sets := map[int]byte{}
	for _, s := range m.accepted {
		sets[s.time] |= s.set
	}
	var all []moment
	for time, set := range sets {
		all = append(all, moment{time, set})
	}
	slices.SortFunc(all, func(a, b moment) int { return a.time - b.time })
	return all
}

func (m *model) tell() []api.Verdict {
	for i := range m.accepted {
		if m.accepted[i].time < m.line() {
			m.accepted[i].waits = false
		}
	}
	all := m.moments()
	var told []api.Verdict
	for formula, f := range m.formulas {
		for i, at := range all {
			key := api.Verdict{Formula: formula, Time: at.time}
			if m.line() > at.time+f.horizon && !m.told[key] {
				m.told[key] = true
				told = append(told, api.Verdict{Formula: formula, Time: at.time, Holds: f.holds(all, i)})
			}
		}
	}
	return told
}

func (m *model) finish() []api.Verdict {
	for source := range m.open {
		m.open[source] = false
	}
	return m.tell()
}

// dice makes plays: the same ones from the same seed.
type dice struct{ *rand.Rand }

func newDice(seed uint64) dice { return dice{rand.New(rand.NewPCG(seed, 42))} }

// formula makes one of that size.
func (d dice) formula(size int) meaning {
	if size == 1 {
		if d.IntN(6) == 0 {
			return meaning{"t", 0, func([]moment, int) bool { return true }}
		}
		p := d.IntN(api.Props) % (1 + d.IntN(api.Props))
		return meaning{decimal(p), 0, func(all []moment, i int) bool { return all[i].set&(1<<p) != 0 }}
	}
	if size == 2 || d.IntN(2) == 0 {
		return d.single(d.formula(size - 1))
	}
	left := 1 + d.IntN(size-2)
	return d.pair(d.formula(left), d.formula(size-1-left))
}

func (d dice) single(f meaning) meaning {
	past, near := d.within(true), d.within(false)
	switch d.IntN(5) {
	case 0:
		return meaning{"!" + f.text, f.horizon, func(all []moment, i int) bool { return !f.holds(all, i) }}
	case 1:
		return meaning{"O" + past.text + f.text, f.horizon, func(all []moment, i int) bool {
			return some(0, i, func(j int) bool { return past.has(all[i].time-all[j].time) && f.holds(all, j) })
		}}
	case 2:
		return meaning{"H" + past.text + f.text, f.horizon, func(all []moment, i int) bool {
			return !some(0, i, func(j int) bool { return past.has(all[i].time-all[j].time) && !f.holds(all, j) })
		}}
	case 3:
		return meaning{"F" + near.text + f.text, f.horizon + near.high, func(all []moment, i int) bool {
			return some(i, len(all)-1, func(j int) bool { return near.has(all[j].time-all[i].time) && f.holds(all, j) })
		}}
	}
	return meaning{"G" + near.text + f.text, f.horizon + near.high, func(all []moment, i int) bool {
		return !some(i, len(all)-1, func(j int) bool { return near.has(all[j].time-all[i].time) && !f.holds(all, j) })
	}}
}

func (d dice) pair(f, g meaning) meaning {
	past, near := d.within(true), d.within(false)
	horizon := max(f.horizon, g.horizon)
	switch d.IntN(4) {
	case 0:
		return meaning{"(" + f.text + "&" + g.text + ")", horizon, func(all []moment, i int) bool { return f.holds(all, i) && g.holds(all, i) }}
	case 1:
		return meaning{"(" + f.text + "|" + g.text + ")", horizon, func(all []moment, i int) bool { return f.holds(all, i) || g.holds(all, i) }}
	case 2:
		return meaning{"(" + f.text + "S" + past.text + g.text + ")", horizon, func(all []moment, i int) bool {
			return some(0, i, func(j int) bool {
				return past.has(all[i].time-all[j].time) && g.holds(all, j) &&
					!some(j+1, i, func(k int) bool { return !f.holds(all, k) })
			})
		}}
	}
	return meaning{"(" + f.text + "U" + near.text + g.text + ")", horizon + near.high, func(all []moment, i int) bool {
		return some(i, len(all)-1, func(j int) bool {
			return near.has(all[j].time-all[i].time) && g.holds(all, j) &&
				!some(i, j-1, func(k int) bool { return !f.holds(all, k) })
		})
	}}
}

func some(first, last int, is func(int) bool) bool {
	for i := first; i <= last; i++ {
		if is(i) {
			return true
		}
	}
	return false
}

// reach is an interval's text and its ends.
type reach struct {
	text      string
	low, high int
}

func (r reach) has(distance int) bool { return distance >= r.low && distance <= r.high }

func (d dice) within(endless bool) reach {
	low := []int{0, 1, 2, d.IntN(6), d.IntN(20)}[d.IntN(5)]
	if endless && d.IntN(3) == 0 {
		return reach{"[" + decimal(low) + ",i]", low, math.MaxInt}
	}
	high := low + d.IntN(8)
	return reach{"[" + decimal(low) + "," + decimal(high) + "]", low, high}
}

// datagram is mostly near the time at which the play is, and now and then
// anything.
func (d dice) datagram(sources, now int) string {
	source := d.IntN(sources)
	near := max(0, min(now+d.IntN(10)-4, maxTime))
	switch d.IntN(200) {
	case 0:
		return shut(source)
	case 1:
		return mark(source, maxTime)
	case 2, 3, 4:
		return event(d.IntN(256), d.IntN(4), d.IntN(9), d.IntN(256))
	case 5, 6, 7:
		return mark(source, []int{0, 1, maxTime + 1, -1}[d.IntN(4)])[d.IntN(2):]
	case 8, 9, 10:
		garbage := make([]byte, d.IntN(15))
		for i := range garbage {
			garbage[i] = byte(d.IntN(4))
		}
		return string(garbage)
	}
	if d.IntN(2) == 0 {
		return mark(source, near)
	}
	return event(source, d.IntN(300), near, d.IntN(256)&d.IntN(256))
}

// play holds monitors against the model, call by call. What comes out of the
// second one is overwritten, spare room and all, as it is the caller's own.
func play(t *testing.T, seed uint64) {
	d := newDice(seed)
	sources, room := 1+d.IntN(api.MaxSources), 1+d.IntN([]int{3, 10, api.MaxRoom}[d.IntN(3)])
	var formulas []meaning
	var texts []string
	for range 1 + d.IntN(api.MaxFormulas) {
		f := d.formula(1 + d.IntN(7))
		formulas, texts = append(formulas, f), append(texts, f.text)
	}
	m, e := tempo.New(api.Config{Sources: sources, Room: room}, texts)
	twin, _ := tempo.New(api.Config{Sources: sources, Room: room}, texts)
	if e != api.OK {
		t.Errorf("P4: New(%d, %d, %q): %d", sources, room, texts, e)
		return
	}
	clear(texts)
	want := newModel(sources, room, formulas)
	now := []int{0, 5, 1000, maxTime - 80}[d.IntN(4)]
	for range 60 + d.IntN(150) {
		now += d.IntN(4) / 2
		datagram := d.datagram(sources, now)
		class, told := m.Feed(datagram)
		twinClass, twinTold := twin.Feed(datagram)
		wantClass, wantVerdicts := want.feed(datagram)
		if class != wantClass || twinClass != wantClass || !slices.Equal(told, wantVerdicts) || !slices.Equal(twinTold, wantVerdicts) {
			t.Errorf("seed %d: Feed(%q) = %d, %v (its twin: %d, %v), want %d, %v", seed, datagram, class, told, twinClass, twinTold, wantClass, wantVerdicts)
			return
		}
		overwrite(twinTold)
	}
	wantVerdicts := want.finish()
	wantTold(t, "P9", m.Finish(), wantVerdicts...)
	wantTold(t, "P9", twin.Finish(), wantVerdicts...)
	wantTold(t, "P9", m.Finish())
	wantCounts(t, m, want.counts[3]+want.counts[4] > 0, want.counts[:]...)
	wantCounts(t, twin, want.counts[3]+want.counts[4] > 0, want.counts[:]...)
}

func overwrite(verdicts []api.Verdict) {
	for i := range verdicts[:cap(verdicts)] {
		verdicts[:cap(verdicts)][i] = api.Verdict{Formula: -1, Time: -1}
	}
}

func TestManyPlays(t *testing.T) {
	for seed := range uint64(3000) {
		play(t, seed)
	}
}

func FuzzPlay(f *testing.F) {
	f.Add(uint64(1 << 40))
	f.Fuzz(play)
}
