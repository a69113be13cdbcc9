package watch_test

import (
	"runtime"
	"strings"
	"testing"

	"tempo/api"
	"tempo/logic"
	"tempo/watch"
)

func watcherOf(t *testing.T, text string) *watch.Watcher {
	t.Helper()
	f, ok := logic.Parse(text)
	if !ok {
		t.Fatalf("%q is to be a formula", text)
	}
	return watch.New(f)
}

// wantAt goes through moments, a set for each, with its answers: T or F.
func wantAt(t *testing.T, text string, times []int, sets string, want string) {
	t.Helper()
	w := watcherOf(t, text)
	got := ""
	for i, time := range times {
		if w.Next(logic.Moment{Time: time, Set: sets[i] - '0'}) {
			got += "T"
		} else {
			got += "F"
		}
	}
	if got != want {
		t.Errorf("%q at %v with %s: %s, want %s", text, times, sets, got, want)
	}
}

func TestEachKind(t *testing.T) {
	times := []int{0, 1, 2, 3}
	for text, want := range map[string]string{
		"0": "FTFT", "1": "FFTT", "2": "FFFF", "t": "TTTT", "!0": "TFTF", "(0&1)": "FFFT", "(0|1)": "FTTT",
		"O[0,i]0": "FTTT", "O[1,1]0": "FFTF", "O[0,0]1": "FFTT",
		"H[0,i]!0": "TFFF", "H[1,1]!0": "TTFT", "H[2,i]0": "TTFF",
		"(1S[0,i]0)": "FTTT", "(0S[0,i]1)": "FFTT", "(1S[1,1]0)": "FFTF", "(0S[1,2]t)": "FTFT",
	} {
		wantAt(t, text, times, "0123", want)
	}
}

// What one part says must not keep the other from seeing the moment.
func TestBothPartsSeeEveryMoment(t *testing.T) {
	times := []int{0, 1, 2}
	wantAt(t, "(0&O[1,1]1)", times, "210", "FTF")
	wantAt(t, "(0|O[1,1]1)", times, "310", "TTF")
	wantAt(t, "(0|O[1,i]1)", times, "310", "TTT")
	wantAt(t, "(O[1,1]1S[0,i]0)", times, "310", "TTF")
	wantAt(t, "(!0S[0,i]O[2,2]0)", times, "100", "FFT")
}

func TestPropositions(t *testing.T) {
	for set := range 256 {
		for p := range api.Props {
			w := watcherOf(t, string(rune('0'+p)))
			if got := w.Next(logic.Moment{Set: byte(set)}); got != (set&(1<<p) != 0) {
				t.Errorf("%d in %b: %v", p, set, got)
			}
		}
	}
}

// A watcher that has gone through very many moments holds no more than one
// that has gone through the widest interval's.
func TestRemembersNoMoreThanItsIntervals(t *testing.T) {
	texts := []string{
		"O[0,i]0", "O[1000,i]0", "O[0,1000]0", "O[1000,1000]0", "H[0,i]1", "H[0,1000]1", "H[1000,1000]1",
		"(tS[0,i]0)", "(tS[0,1000]0)", "(tS[1000,i]0)", "(0S[1000,1000]0)", "O[7,i]O[8,i]O[9,1000]H[3,i](0S[1,1000]0)",
		strings.Repeat("O[1000,1000]", api.MaxSize-1) + "0",
	}
	for _, text := range texts {
		w := watcherOf(t, text)
		before := heapInUse()
		for time := range 400_000 {
			w.Next(logic.Moment{Time: time, Set: 1})
		}
		if after := heapInUse(); after > before+1<<20 {
			t.Errorf("%q remembers %d bytes", text, after-before)
		}
		runtime.KeepAlive(w)
	}
}

func heapInUse() uint64 {
	runtime.GC()
	var stats runtime.MemStats
	runtime.ReadMemStats(&stats)
	return stats.HeapAlloc
}
