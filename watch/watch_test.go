package watch_test

import (
	"math"
	"runtime"
	"slices"
	"strings"
	"testing"

	"tempo/api"
	"tempo/logic"
	"tempo/watch"
)

func watcherOf(t *testing.T, text string) (w *watch.Watcher, horizon int) {
	t.Helper()
	f, ok := logic.Parse(text)
	if !ok {
		t.Fatalf("%q is to be a formula", text)
	}
	return watch.New(f), f.Horizon()
}

// wantAt goes through moments, a set for each, with its answers, T or F: with
// a line that rises by one, with one that jumps from moment to moment, and
// with all moments at once.
func wantAt(t *testing.T, text string, times []int, sets string, want string) {
	t.Helper()
	moments := make([]logic.Moment, len(times))
	readings := make([]watch.Reading, len(times))
	for i, time := range times {
		moments[i] = logic.Moment{Time: time, Set: sets[i] - '0'}
		readings[i] = watch.Reading{Time: time, Holds: want[i] == 'T'}
	}
	slow, horizon := watcherOf(t, text)
	for line := range times[len(times)-1] + horizon + 2 {
		var released []logic.Moment
		var settled []watch.Reading
		for i, time := range times {
			if time == line-1 {
				released = moments[i : i+1]
			}
			if time+horizon == line-1 {
				settled = readings[i : i+1]
			}
		}
		if got := slow.Next(released, line); !slices.Equal(got, settled) {
			t.Errorf("%q at %v with %s and the line %d: %v, want %v", text, times, sets, line, got, settled)
		}
	}
	quick, _ := watcherOf(t, text)
	var all []watch.Reading
	for i := range moments {
		all = append(all, quick.Next(moments[i:i+1], times[i]+1)...)
	}
	all = append(all, quick.Next(nil, math.MaxInt)...)
	atOnce, _ := watcherOf(t, text)
	if got := atOnce.Next(moments, math.MaxInt); !slices.Equal(got, readings) || !slices.Equal(all, readings) {
		t.Errorf("%q at %v with %s: %v at once, %v else, want %v", text, times, sets, got, all, readings)
	}
}

func TestEachKind(t *testing.T) {
	times := []int{0, 1, 2, 3}
	for text, want := range map[string]string{
		"0": "FTFT", "1": "FFTT", "2": "FFFF", "t": "TTTT", "!0": "TFTF", "(0&1)": "FFFT", "(0|1)": "FTTT",
		"O[0,i]0": "FTTT", "O[1,1]0": "FFTF", "O[0,0]1": "FFTT",
		"H[0,i]!0": "TFFF", "H[1,1]!0": "TTFT", "H[2,i]0": "TTFF",
		"(1S[0,i]0)": "FTTT", "(0S[0,i]1)": "FFTT", "(1S[1,1]0)": "FFTF", "(0S[1,2]t)": "FTFT",
		"F[0,9]0": "TTTT", "F[1,1]0": "TFTF", "F[0,0]1": "FFTT", "F[2,3]0": "TTFF", "F[1,1]t": "TTTF",
		"G[0,9]1": "FFTT", "G[1,1]!0": "FTFT", "G[0,0]1": "FFTT", "G[2,3]!0": "FFTT", "G[1,9]!t": "FFFT",
		"(0U[0,9]1)": "FTTT", "(1U[0,9]0)": "FTTT", "(1U[1,1]0)": "FFTF", "(!1U[1,2]1)": "TTFF", "(!tU[0,9]0)": "FTFT", "(!tU[1,9]0)": "FFFF", "(tU[1,9]0)": "TTTF",
	} {
		wantAt(t, text, times, "0123", want)
	}
}

// What one part says must not keep the other from seeing the moment.
func TestBothPartsSeeEveryMoment(t *testing.T) {
	times := []int{0, 1, 2}
	wantAt(t, "(0&O[1,1]1)", times, "210", "FTF")
	wantAt(t, "(0|O[1,1]1)", times, "310", "TTF")
	wantAt(t, "(0|O[1,i]1)", times, "310", "TTT")
	wantAt(t, "(O[1,1]1S[0,i]0)", times, "310", "TTF")
	wantAt(t, "(!0S[0,i]O[2,2]0)", times, "100", "FFT")
	wantAt(t, "(0U[0,2]O[2,2]0)", times, "110", "TTT")
	wantAt(t, "(O[1,1]1U[1,1]0)", times, "211", "FTF")
}

// The side that looks less far ahead waits for the other one.
func TestPartsOfDifferentHorizons(t *testing.T) {
	times := []int{0, 1, 2, 5}
	for text, want := range map[string]string{
		"(0&F[3,4]1)": "FTFF", "(F[3,4]1&0)": "FTFF",
		"(0|F[3,4]1)": "TTTF", "(F[3,4]1|0)": "TTTF",
		"(0S[1,1]F[3,4]1)": "FFFF", "(!0S[1,1]F[3,4]1)": "FFTF", "(F[3,4]1S[1,1]0)": "FTTF",
		"(0U[1,2]F[3,4]1)": "TTFF", "(F[0,4]1U[2,3]!0)": "FFTF", "(F[0,5]1U[2,3]!0)": "TFTF",
		"((0&F[1,1]0)|G[3,4]!1)": "TFFT",
	} {
		wantAt(t, text, times, "1102", want)
	}
}

func TestPropositions(t *testing.T) {
	for set := range 256 {
		for p := range api.Props {
			w, _ := watcherOf(t, string(rune('0'+p)))
			want := []watch.Reading{{Time: 7, Holds: set&(1<<p) != 0}}
			if got := w.Next([]logic.Moment{{Time: 7, Set: byte(set)}}, 8); !slices.Equal(got, want) {
				t.Errorf("%d in %b: %v", p, set, got)
			}
		}
	}
}

// A line that rises without a moment settles what waits for it.
func TestALineAlone(t *testing.T) {
	w, _ := watcherOf(t, "F[1,4]O[0,1]0")
	for _, step := range []struct {
		moments []logic.Moment
		line    int
		want    []watch.Reading
	}{
		{nil, 3, nil},
		{[]logic.Moment{{Time: 3}, {Time: 6, Set: 1}}, 7, nil},
		{nil, 7, nil},
		{nil, 8, []watch.Reading{{Time: 3, Holds: true}}},
		{nil, 8, nil},
		{[]logic.Moment{{Time: 8, Set: 0}}, 10, nil},
		{nil, 11, []watch.Reading{{Time: 6}}},
		{nil, math.MaxInt, []watch.Reading{{Time: 8}}},
		{nil, math.MaxInt, nil},
	} {
		if got := w.Next(step.moments, step.line); !slices.Equal(got, step.want) {
			t.Errorf("Next(%v, %d) = %v, want %v", step.moments, step.line, got, step.want)
		}
	}
}

// A watcher that has gone through very many moments holds no more than one
// that has gone through the widest interval's.
func TestRemembersNoMoreThanItsIntervals(t *testing.T) {
	texts := []string{
		"O[0,i]0", "O[1000,i]0", "O[0,1000]0", "O[1000,1000]0", "H[0,i]1", "H[0,1000]1", "H[1000,1000]1",
		"(tS[0,i]0)", "(tS[0,1000]0)", "(tS[1000,i]0)", "(0S[1000,1000]0)", "O[7,i]O[8,i]O[9,1000]H[3,i](0S[1,1000]0)",
		strings.Repeat("O[1000,1000]", api.MaxSize-1) + "0",
		"F[0,0]0", "F[0,1000]0", "F[0,1000]1", "F[1000,1000]0", "G[0,1000]0", "G[0,1000]1", "G[1000,1000]1",
		"(0U[0,1000]0)", "(0U[0,1000]1)", "(1U[0,1000]0)", "(1U[0,1000]1)", "(1U[1000,1000]0)", "(1U[0,0]0)",
		"(0&F[0,1000]0)", "(F[0,1000]0S[0,i]0)", "(0U[0,1000]F[0,1000]0)",
		strings.Repeat("F[1000,1000]", api.MaxSize-1) + "0",
		strings.Repeat("G[0,1000]", api.MaxSize-1) + "1",
	}
	for _, text := range texts {
		w, _ := watcherOf(t, text)
		before := heapInUse()
		for time := range 100_000 {
			w.Next([]logic.Moment{{Time: time, Set: 1}}, time+1)
		}
		if after := heapInUse(); after > before+1<<20 {
			t.Errorf("%q remembers %d bytes", text, after-before)
		}
		runtime.KeepAlive(w)
	}
}

func heapInUse() uint64 {
	runtime.GC()
	var stats runtime.MemStats
	runtime.ReadMemStats(&stats)
	return stats.HeapAlloc
}
