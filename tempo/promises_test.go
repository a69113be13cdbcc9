package tempo_test

import (
	"math"
	"runtime"
	"slices"
	"strings"
	"sync"
	"testing"
	"time"

	"tempo/api"
	"tempo/tempo"
)

func TestNoCallPanics(t *testing.T) {
	numbers := []int{math.MinInt, -1, 0, 1, 4, 5, 64, 65, math.MaxInt}
	lists := [][]string{nil, {}, {""}, {"0"}, {"0", "F[1,2]1"}, {"0", "!"}, {"0", "0", "0", "0", "0"}, {strings.Repeat("(", 1_000_000)}}
	for _, sources := range numbers {
		for _, room := range numbers {
			for _, list := range lists {
				m, e := tempo.New(api.Config{Sources: sources, Room: room}, list)
				if (e == api.OK) != (m != nil) {
					t.Errorf("P1: New(%d, %d, %.60q) = %v, %d", sources, room, list, m, e)
				}
				callAll(m)
			}
		}
	}
	for _, formula := range manyFormulas() {
		callAll(newMonitor(t, 2, 1, formula, formula))
	}
}

func callAll(m *tempo.Monitor) {
	for range 2 {
		for _, datagram := range []string{"", "\x00", "\x01", "\x02\x00", "\x03\xff", strings.Repeat("\x01", 13), strings.Repeat("\xff", 13), strings.Repeat("\x02", 1_000_000), event(0, 1, 0, 255), event(0, 2, maxTime, 255), mark(0, 1), mark(1, maxTime), shut(1), shut(0)} {
			m.Feed(datagram)
			m.Counts()
			m.Degraded()
		}
		m.Finish()
	}
}

// P1: what New gives with an error is nil, and its methods do not panic either.
func TestAMonitorThatIsNone(t *testing.T) {
	m, _ := tempo.New(api.Config{Sources: 1, Room: 1}, nil)
	for _, datagram := range []string{"", event(0, 1, 5, 1), mark(0, 5), shut(0)} {
		feed(t, "P1", m, datagram, api.Malformed)
	}
	wantTold(t, "P1", m.Finish())
	wantCounts(t, m, false, 0, 0, 0, 0, 0, 0)
}

// P1: whatever stands in a datagram of the right length.
func TestFeedOfAnyBytes(t *testing.T) {
	m := newMonitor(t, 4, 64, "F[0,1000]0", "O[1,i]!1", "(2S[3,9]F[1,2]3)", "(H[0,1000]4U[0,1000]G[1,9]5)")
	fed := 0
	for _, length := range []int{1, 2, 9, 10, 11, 12, 13, 14} {
		for at := range length {
			for b := range 256 {
				for _, rest := range []byte{0, 1, 2, 3, 64, 255} {
					datagram := slices.Repeat([]byte{rest}, length)
					datagram[at] = byte(b)
					m.Feed(string(datagram))
					fed++
				}
			}
		}
	}
	m.Finish()
	counts := m.Counts()
	sum := 0
	for _, count := range counts {
		sum += count
	}
	if sum != fed {
		t.Errorf("P5: of %d datagrams %v are counted", fed, counts)
	}
}

func TestWithAnErrorTheHorizonIsZero(t *testing.T) {
	for _, formula := range []string{"F[0,9]", "F[0,9]8", "(F[0,9]0&G[0,8]1", "F[0,9]0 ", "(0U[5,9]1))", "F[0,9]F[0,1001]0", strings.Repeat("F[0,9]", 20) + "0"} {
		wantRefused(t, "P1", formula)
	}
}

func TestListsHandedInAreNotChanged(t *testing.T) {
	whole := []string{"0", "F[1,2]1", "O[1,2]1", "!", "spare", "room"}
	before := slices.Clone(whole)
	for end := range len(whole) {
		m, _ := tempo.New(api.Config{Sources: 2, Room: 3}, whole[:end])
		callAll(m)
		if !slices.Equal(whole, before) {
			t.Errorf("P2: New changed its list to %q", whole)
		}
	}
}

func TestListsHandedInAreNotKept(t *testing.T) {
	formulas := []string{"0", "!0", "O[1,1]0", "F[0,3]0"}
	m := newMonitor(t, 1, 1, formulas...)
	copy(formulas, []string{"1", "t", "8", "1"})
	feed(t, "P2", m, event(0, 1, 5, 1), api.Accepted)
	clear(formulas)
	feed(t, "P2", m, mark(0, 6), api.Accepted, holds(0, 5), fails(1, 5), fails(2, 5))
	feed(t, "P2", m, mark(0, 9), api.Accepted, holds(3, 5))
}

// P2: a list that was told is the caller's, spare room and all: it stays as it
// is whatever is called behind it, and what is laid there is seen nowhere.
func TestListsThatCameOutAreTheCallers(t *testing.T) {
	m := newMonitor(t, 1, 8, "F[1,7]0", "O[1,i]0", "(1U[0,3]0)", "G[0,20](0|O[1,1]F[2,9]1)")
	var lists, copies [][]api.Verdict
	keep := func(told []api.Verdict) {
		lists, copies = append(lists, told), append(copies, slices.Clone(told))
	}
	for time := range 40 {
		feed(t, "P2", m, event(0, time, time, time), api.Accepted)
		_, told := m.Feed(mark(0, time))
		keep(told)
		if time%3 == 0 {
			_ = append(told, holds(7, 7), holds(7, 7), holds(7, 7))
		}
	}
	keep(m.Finish())
	for i := range lists {
		wantTold(t, "P2", lists[i], copies[i]...)
		overwrite(lists[i])
		for j := i + 1; j < len(lists); j++ {
			wantTold(t, "P2", lists[j], copies[j]...)
		}
	}
	counts := m.Counts()
	clear(counts[:])
	wantCounts(t, m, false, 79, 1, 0, 0, 0, 0)
}

// P2: monitors that are used side by side do not see each other.
func TestMonitorsSideBySide(t *testing.T) {
	var players sync.WaitGroup
	for player := range uint64(8) {
		players.Go(func() {
			for round := range uint64(20) {
				play(t, 1000*(player/2)+round)
			}
		})
	}
	players.Wait()
}

// The watchers of a call have ended when it answers.
func TestNoGoroutineIsLeft(t *testing.T) {
	before := runtime.NumGoroutine()
	for seed := range uint64(50) {
		play(t, seed)
	}
	// One that has said its last word may still be counted for a while.
	for range 1000 {
		if runtime.NumGoroutine() <= before {
			return
		}
		time.Sleep(time.Millisecond)
	}
	t.Errorf("%d goroutines are left, were %d", runtime.NumGoroutine(), before)
}

// P2: of the texts that went in nothing is held.
func TestAMonitorKeepsNoText(t *testing.T) {
	const ahead = 64 << 20
	behind := func(text string) string { return (strings.Repeat(" ", ahead) + text)[ahead:] }
	before := heapInUse()
	m := newMonitor(t, 1, 1, behind("(0S[1,2]1)"), behind("(0U[1,2]1)"))
	feed(t, "P2", m, behind(event(0, 1, 5, 1)), api.Accepted)
	feed(t, "P2", m, behind(mark(0, 6)), api.Accepted, fails(0, 5))
	if after := heapInUse(); after > before+ahead/2 {
		t.Errorf("P2: texts are kept: %d bytes in use, were %d", after, before)
	}
	runtime.KeepAlive(m)
}

// A monitor that has seen all numbers of all sources, with formulas that
// remember as much as they can, holds next to nothing when it is finished, or
// when no source is open any more.
func TestAMonitorThatHasEndedKeepsNoEvents(t *testing.T) {
	finish := func(m *tempo.Monitor) int { return len(m.Finish()) }
	closeAll := func(m *tempo.Monitor) (verdicts int) {
		for source := range 4 {
			_, told := m.Feed(shut(source))
			verdicts += len(told)
		}
		return verdicts
	}
	for _, end := range []func(*tempo.Monitor) int{finish, closeAll} {
		before := heapInUse()
		m := newMonitor(t, 4, 64, nested("O[1000,1000]"), nested("F[0,1000]"), nested("G[1000,1000]"), "(0&"+nested("F[0,1000]")[len("F[0,1000]F[0,1000]"):]+")")
		verdicts := feedAllNumbers(t, m)
		verdicts += end(m)
		if after := heapInUse(); after > before+1<<18 {
			t.Errorf("%d bytes are kept", after-before)
		}
		if verdicts != 4<<16 {
			t.Errorf("P9: %d verdicts", verdicts)
		}
		runtime.KeepAlive(m)
	}
}

// nested is the deepest formula of that sign.
func nested(sign string) string { return strings.Repeat(sign, api.MaxSize-1) + "0" }

// feedAllNumbers answers how many verdicts were told.
func feedAllNumbers(t *testing.T, m *tempo.Monitor) (verdicts int) {
	for number := range 1 << 16 {
		for source := range 4 {
			feed(t, "P6", m, event(source, number, number, 1), api.Accepted)
			_, told := m.Feed(mark(source, number+1))
			verdicts += len(told)
		}
	}
	for number := range 1 << 16 {
		feed(t, "P6", m, event(number%4, number, 1<<16, 1), api.Duplicate)
	}
	wantCounts(t, m, false, 8<<16, 1<<16, 0, 0, 0, 0)
	return verdicts
}

// P2: asked again, in another order and side by side, the answers are the same.
func TestHorizonHangsOnItsArgumentAlone(t *testing.T) {
	formulas := append(manyFormulas(), "", "8", "F[0,i]0", "(0&1", strings.Repeat("!", 20)+"0")
	var askers sync.WaitGroup
	for asker := range 8 {
		askers.Go(func() {
			for round := range 200 {
				formula := formulas[(asker*31+round*7)%len(formulas)]
				compareWithOracle(t, formula)
			}
		})
	}
	askers.Wait()
}

// P2: a piece of a text that were kept would keep the whole of it.
func TestHorizonKeepsNoText(t *testing.T) {
	const ahead = 64 << 20
	for _, formula := range []string{"F[1,5](0&F[0,7]1)", "(F[0,3]0&G[0,8]1"} {
		before := heapInUse()
		tempo.Horizon((strings.Repeat(" ", ahead) + formula)[ahead:])
		if after := heapInUse(); after > before+ahead/2 {
			t.Errorf("P2: Horizon(%q) kept its text: %d bytes in use, were %d", formula, after, before)
		}
	}
}

func heapInUse() uint64 {
	runtime.GC()
	var stats runtime.MemStats
	runtime.ReadMemStats(&stats)
	return stats.HeapAlloc
}
