package tempo_test

import (
	"math"
	"runtime"
	"slices"
	"strings"
	"sync"
	"testing"

	"tempo/api"
	"tempo/tempo"
)

// P1: the calls that answer nothing yet are made too, so that the promise is
// held against them from the start.
func TestNoCallPanics(t *testing.T) {
	numbers := []int{math.MinInt, -1, 0, 1, 4, 5, 64, 65, math.MaxInt}
	lists := [][]string{nil, {}, {""}, {"0"}, {"0", "F[1,2]1"}, {"0", "!"}, {"0", "0", "0", "0", "0"}, {strings.Repeat("(", 1_000_000)}}
	datagrams := []string{"", "\x00", "\x01", "\x02\x00", "\x03\x00", "\x03\xff", strings.Repeat("\x01", 13), strings.Repeat("\xff", 13), strings.Repeat("\x02", 1_000_000)}
	for _, sources := range numbers {
		for _, room := range numbers {
			for _, list := range lists {
				m, e := tempo.New(api.Config{Sources: sources, Room: room}, list)
				if e != api.OK && m != nil {
					t.Errorf("P1: New(%d, %d, %.60q) answers a monitor with the error %d", sources, room, list, e)
				}
				if e != api.OK {
					continue
				}
				for _, datagram := range datagrams {
					m.Feed(datagram)
				}
				m.Finish()
				m.Counts()
				m.Degraded()
			}
		}
	}
}

func TestWithAnErrorTheHorizonIsZero(t *testing.T) {
	for _, formula := range []string{"F[0,9]", "F[0,9]8", "(F[0,9]0&G[0,8]1", "F[0,9]0 ", "(0U[5,9]1))", "F[0,9]F[0,1001]0", strings.Repeat("F[0,9]", 20) + "0"} {
		wantRefused(t, "P1", formula)
	}
}

func TestListsHandedInAreNotChanged(t *testing.T) {
	whole := []string{"0", "F[1,2]1", "!", "spare", "room"}
	before := slices.Clone(whole)
	for end := range len(whole) {
		tempo.New(api.Config{Sources: 2, Room: 3}, whole[:end])
		if !slices.Equal(whole, before) {
			t.Errorf("P2: New changed its list to %q", whole)
		}
	}
}

// P2: asked again, in another order and side by side, the answers are the same.
func TestHorizonHangsOnItsArgumentAlone(t *testing.T) {
	formulas := append(manyFormulas(), "", "8", "F[0,i]0", "(0&1", strings.Repeat("!", 20)+"0")
	var askers sync.WaitGroup
	for asker := range 8 {
		askers.Go(func() {
			for round := range 200 {
				formula := formulas[(asker*31+round*7)%len(formulas)]
				compareWithOracle(t, formula)
			}
		})
	}
	askers.Wait()
}

// P2: a piece of a text that were kept would keep the whole of it.
func TestHorizonKeepsNoText(t *testing.T) {
	const ahead = 64 << 20
	for _, formula := range []string{"F[1,5](0&F[0,7]1)", "(F[0,3]0&G[0,8]1"} {
		before := heapInUse()
		tempo.Horizon((strings.Repeat(" ", ahead) + formula)[ahead:])
		if after := heapInUse(); after > before+ahead/2 {
			t.Errorf("P2: Horizon(%q) kept its text: %d bytes in use, were %d", formula, after, before)
		}
	}
}

func heapInUse() uint64 {
	runtime.GC()
	var stats runtime.MemStats
	runtime.ReadMemStats(&stats)
	return stats.HeapAlloc
}
