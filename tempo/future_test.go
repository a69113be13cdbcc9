package tempo_test

import (
	"strings"
	"testing"

	"tempo/api"
	"tempo/tempo"
)

func TestFutureFormulas(t *testing.T) {
	times := []int{2, 3, 5, 9, 10, 20}
	sets := []int{3, 1, 0, 2, 1, 130} // 0: TTFFTF, 1: TFFTFT, 7: FFFFFT
	for formula, want := range map[string]string{
		"F[0,0]0": "TTFFTF", "F[0,1]0": "TTFTTF", "F[1,1]0": "TFFTFF", "F[1,5]0": "TFTTFF", "F[1,4]0": "TFFTFF", "F[6,8]0": "TTFFFF", "F[10,11]1": "FFFTTF", "F[0,1000]7": "TTTTTT", "F[1,1000]7": "TTTTTF", "F[0,1000]2": "FFFFFF",
		"G[0,0]0": "TTFFTF", "G[0,1]0": "TTFFTF", "G[1,1]0": "TTTTTT", "G[1,3]0": "FFTTTT", "G[3,3]0": "FTTTTT", "G[4,7]0": "FFFTTT", "G[0,1000](0|1)": "FFFTTT", "G[1,1000]1": "FFFFTT", "G[1,1000]7": "FFFFTT",
		"(0U[0,1000]1)": "TFFTTT", "(0U[1,1000]1)": "FFFFTF", "(0U[0,9]1)": "TFFTFT", "(0U[0,10]1)": "TFFTTT", "(1U[0,1]0)": "TTFTTF", "(1U[1,1]0)": "TFFTFF", "(!7U[1,11]7)": "FFFTTF", "(!7U[1,10]7)": "FFFFTF", "(!7U[11,1000]7)": "TTTTFF", "(tU[2,6]0)": "FFTFFF", "(!tU[0,1000]1)": "TFFTFT", "(!tU[1,1000]t)": "FFFFFF",
	} {
		wantAnswers(t, formula, times, sets, want)
	}
}

func TestTheFutureOfTheFuture(t *testing.T) {
	times := []int{0, 1, 2, 3, 5, 8}
	sets := []int{1, 2, 0, 3, 1, 2} // 0: TFFTTF, 1: FTFTFT
	for formula, want := range map[string]string{
		"F[1,1]F[1,1]0":                "FTFFFF",
		"F[1,2]F[1,2]0":                "TTTFFF",
		"F[0,3]F[0,2]1":                "TTTTTT",
		"G[0,1]F[0,1](0|1)":            "TTTTTT",
		"G[0,2]F[0,1]0":                "FFTTTF",
		"F[0,2]G[0,2]0":                "FTTTTF",
		"F[2,3]G[1,3]1":                "FFTTTF",
		"G[1,2]G[1,3]1":                "FFFTTT",
		"!F[1,2]!G[0,1]1":              "FFTFTT",
		"(F[1,1]0U[1,2]G[0,0]0)":       "FFTFFF",
		"((1U[0,2]0)U[2,3]F[3,3]1)":    "FFFTFF",
		"((0|1)U[0,9](0&1))":           "FFFTFF",
		"(F[0,2]0&G[1,2]1)":            "FFTFTF",
		"(F[1,1]0|(0U[1,3]1))":         "TFTFTF",
		"F[0,3](0&F[1,3](1&F[0,0]!0))": "TFTTTF",
	} {
		wantAnswers(t, formula, times, sets, want)
	}
	wantAnswers(t, strings.Repeat("F[0,0]", 19)+"0", times, sets, "TFFTTF")
	wantAnswers(t, strings.Repeat("G[0,0]", 19)+"0", times, sets, "TFFTTF")
	wantAnswers(t, strings.Repeat("F[1,1]", 3)+"1", times, sets, "TFFFFF")
}

func TestThePastOfTheFuture(t *testing.T) {
	times := []int{0, 1, 3, 4, 8, 9}
	sets := []int{1, 2, 0, 3, 2, 1} // 0: TFFTFT, 1: FTFTTF
	for formula, want := range map[string]string{
		"O[0,i]F[1,1]0":          "FFTTTT",
		"O[1,3]F[1,1]0":          "FFFTFT",
		"O[3,3]F[0,1]0":          "FFTFFF",
		"H[0,i]F[0,3]0":          "TTTTTT",
		"H[1,3]F[0,1]0":          "TTFFTT",
		"H[0,1]G[0,1]1":          "FFFFFF",
		"H[2,i]G[0,1]0":          "TTFFFF",
		"(F[0,1]0S[0,i]1)":       "FTTTTT",
		"(F[0,1]0S[1,i]1)":       "FFTTTT",
		"(G[0,1]1S[0,i]F[3,3]0)": "FTFFFF",
		"(0S[1,1]F[1,1]0)":       "FFFTFT",
		"(F[3,5]t&O[1,1]0)":      "FTFFFF",
		"(F[4,5]t|O[1,1]0)":      "TTTTFF",
		"!O[1,1]F[1,4]0":         "TFTFTF",
	} {
		wantAnswers(t, formula, times, sets, want)
	}
}

func TestTheFutureOfThePast(t *testing.T) {
	times := []int{0, 1, 3, 4, 8, 9}
	sets := []int{1, 2, 0, 3, 2, 1} // 0: TFFTFT, 1: FTFTTF
	for formula, want := range map[string]string{
		"F[1,1]O[1,1]0":          "TFFFFF",
		"F[0,4]O[4,4]0":          "TTTTTF",
		"F[5,5]O[9,9]0":          "FFFTFF",
		"G[0,3]O[1,4]1":          "FFTTTT",
		"G[1,4]H[1,i]0":          "FFFFFT",
		"G[1,1000]O[1,i](0&1)":   "FFFTTT",
		"(O[0,1]0U[0,4]H[1,1]1)": "TTTTTT",
		"(O[0,1]1U[3,4]O[4,4]0)": "FFFTFF",
		"(O[0,2]1U[3,4]0)":       "FTFFFF",
		"F[0,3](0S[1,2]1)":       "FFFFTT",
		"F[0,3](1S[1,3]!0)":      "FTTTFF",
	} {
		wantAnswers(t, formula, times, sets, want)
	}
}

// Two moments: what holds at the second one is seen from the first one just if
// the distance is in the interval.
func TestDistancesAheadAtTheEndsOfIntervals(t *testing.T) {
	answer := func(holds bool) string {
		return map[bool]string{true: "T", false: "F"}[holds]
	}
	for _, ends := range [][2]int{{0, 0}, {0, 1}, {1, 1}, {1, 2}, {3, 7}, {9, 10}, {0, 999}, {0, 1000}, {999, 1000}, {1000, 1000}} {
		low, high := ends[0], ends[1]
		within := "[" + decimal(low) + "," + decimal(high) + "]"
		for _, distance := range []int{1, 2, low - 1, low, low + 1, high - 1, high, high + 1, 1001, 5000, maxTime} {
			if distance < 1 {
				continue
			}
			in := distance >= low && distance <= high
			for _, first := range []int{0, 77, maxTime - distance} {
				if first > maxTime-distance {
					continue
				}
				times, sets := []int{first, first + distance}, []int{1, 2}
				here := answer(low == 0)
				wantAnswers(t, "F"+within+"1", times, sets, answer(in)+here)
				wantAnswers(t, "G"+within+"!1", times, sets, answer(!in)+answer(low != 0))
				wantAnswers(t, "(0U"+within+"1)", times, sets, answer(in)+here)
				wantAnswers(t, "(1U"+within+"1)", times, sets, "F"+here)
			}
		}
	}
}

// At the last moment there is nothing behind it.
func TestTheLastMoment(t *testing.T) {
	for _, time := range []int{0, 1, 1000, maxTime - 1001, maxTime - 1000, maxTime - 1, maxTime} {
		for formula, want := range map[string]string{
			"F[0,0]0": "T", "F[0,0]1": "F", "F[0,1000]0": "T", "F[0,1000]1": "F", "F[1,1]t": "F", "F[1,1000]t": "F", "F[1000,1000]t": "F",
			"G[0,0]0": "T", "G[0,0]1": "F", "G[0,1000]0": "T", "G[0,1000]1": "F", "G[1,1]!t": "T", "G[1,1000]!t": "T", "G[1000,1000]1": "T",
			"(1U[0,0]0)": "T", "(0U[0,1000]1)": "F", "(1U[0,1000]0)": "T", "(tU[1,1]t)": "F", "(tU[1,1000]t)": "F", "(tU[1000,1000]t)": "F",
			"F[1000,1000]G[1,1000]0": "F", "G[1,1000]F[1,1000]0": "T", "G[0,1000]F[1,1000]0": "F", "F[0,1000]G[1,1000]1": "T",
		} {
			wantAnswers(t, formula, []int{time}, []int{1}, want)
		}
	}
}

func TestUntil(t *testing.T) {
	times := []int{0, 1, 2, 3, 4, 5}
	for _, c := range []struct {
		formula, why string
		sets         []int
		want         string
	}{
		{"(0U[0,3]1)", "g holds at once, f nowhere", []int{2, 0, 0, 0, 0, 0}, "TFFFFF"},
		{"(0U[0,3]1)", "f up to ahead of g", []int{1, 1, 1, 2, 0, 0}, "TTTTFF"},
		{"(0U[0,3]1)", "f fails on the way", []int{1, 0, 1, 2, 0, 0}, "FFTTFF"},
		{"(0U[0,3]1)", "f fails at i itself", []int{0, 1, 1, 2, 0, 0}, "FTTTFF"},
		{"(0U[0,3]1)", "g is too far", []int{1, 1, 1, 1, 2, 0}, "FTTTTF"},
		{"(0U[2,3]1)", "g at once is too near", []int{2, 0, 0, 0, 0, 0}, "FFFFFF"},
		{"(0U[2,3]1)", "g is near and far, f goes on", []int{3, 1, 3, 1, 0, 0}, "TFFFFF"},
		{"(0U[2,3]1)", "f fails where the near g is", []int{1, 2, 3, 2, 0, 0}, "FFFFFF"},
		{"(0U[2,3]1)", "the first g that is far enough is not the last one", []int{1, 1, 3, 2, 0, 0}, "TTFFFF"},
		{"(0U[2,3]1)", "f fails between two that are far enough", []int{1, 1, 2, 2, 0, 0}, "TFFFFF"},
		{"(0U[2,2]1)", "each has its own", []int{1, 1, 3, 3, 3, 2}, "TTTTFF"},
		{"(0U[0,1000]1)", "no g", []int{1, 1, 1, 1, 1, 1}, "FFFFFF"},
		{"(tU[5,1000]1)", "g at the end alone", []int{0, 0, 0, 0, 0, 2}, "TFFFFF"},
	} {
		t.Run(c.why, func(t *testing.T) { wantAnswers(t, c.formula, times, c.sets, c.want) })
	}
}

// The line comes to the moment's time and horizon together, and then above it:
// by a mark, by the close of the source that is least far, by the close of the
// last source, and by Finish.
func TestToldJustWhenTheHorizonIsPast(t *testing.T) {
	for _, c := range []struct {
		formula string
		horizon int
		holds   bool
	}{
		{"F[0,0]0", 0, true}, {"F[0,1]0", 1, true}, {"F[1,2]0", 2, false}, {"G[0,3]0", 3, true}, {"(tU[0,4]0)", 4, true},
		{"F[0,1000]0", 1000, true}, {"G[1,1000]1", 1000, true}, {"F[1000,1000]F[0,1000]0", 2000, false}, {strings.Repeat("G[0,1000]", 19) + "0", 19000, true},
		{"O[0,i]F[0,5]0", 5, true}, {"H[0,1000]G[0,5]1", 5, false}, {"(F[0,2]0S[0,9]G[0,6]0)", 6, true}, {"(G[0,7]0&0)", 7, true}, {"(0|G[0,8]0)", 8, true}, {"!F[0,9]!0", 9, true},
		{"F[0,4]O[1,1000]F[0,3]0", 7, false}, {"(F[0,2]0U[0,10]0)", 12, true},
	} {
		if h, _ := tempo.Horizon(c.formula); h != c.horizon {
			t.Errorf("P3: the horizon of %q is %d, want %d", c.formula, h, c.horizon)
		}
		for _, time := range []int{1, 500, maxTime - 20000} {
			wantDue(t, c.formula, time+c.horizon+1, api.Verdict{Time: time, Holds: c.holds})
		}
	}
}

// wantDue tries each way in which a line can come to what is due.
func wantDue(t *testing.T, formula string, due int, verdict api.Verdict) {
	t.Helper()
	begin := func(mark0 int) *tempo.Monitor {
		m := newMonitor(t, 2, 1, formula)
		feed(t, "P6", m, event(1, 1, verdict.Time, 1), api.Accepted)
		feed(t, "P7", m, mark(0, mark0), api.Accepted)
		return m
	}
	byMark := begin(due + 50)
	feed(t, "P9", byMark, mark(1, due), api.Accepted, verdict)

	byNextMark := begin(due + 50)
	feed(t, "P9", byNextMark, mark(1, due-1), api.Accepted)
	feed(t, "P9", byNextMark, mark(1, due), api.Accepted, verdict)
	feed(t, "P9", byNextMark, mark(1, due+1), api.Accepted)

	byFarMark := begin(due)
	feed(t, "P9", byFarMark, mark(1, maxTime), api.Accepted, verdict)

	byClose := begin(due)
	feed(t, "P9", byClose, mark(1, due-1), api.Accepted)
	feed(t, "P9", byClose, shut(1), api.Accepted, verdict)
	feed(t, "P9", byClose, shut(0), api.Accepted)

	byLastClose := begin(due - 1)
	feed(t, "P9", byLastClose, shut(1), api.Accepted)
	feed(t, "P9", byLastClose, shut(0), api.Accepted, verdict)

	byFinish := begin(due)
	feed(t, "P9", byFinish, mark(1, due-1), api.Accepted)
	wantTold(t, "P9", byFinish.Finish(), verdict)

	for _, m := range []*tempo.Monitor{byMark, byNextMark, byFarMark, byClose, byLastClose, byFinish} {
		wantTold(t, "P9", m.Finish())
	}
}

func TestTheLineAloneTells(t *testing.T) {
	m := newMonitor(t, 1, 3, "F[2,4]0", "0")
	feed(t, "P6", m, event(0, 1, 3, 1), api.Accepted)
	feed(t, "P6", m, event(0, 2, 5, 1), api.Accepted)
	feed(t, "P6", m, event(0, 3, 50, 1), api.Accepted)
	feed(t, "P9", m, mark(0, 6), api.Accepted, holds(1, 3), holds(1, 5))
	feed(t, "P9", m, mark(0, 7), api.Accepted)
	feed(t, "P9", m, mark(0, 8), api.Accepted, holds(0, 3))
	feed(t, "P9", m, mark(0, 9), api.Accepted)
	feed(t, "P9", m, mark(0, 10), api.Accepted, fails(0, 5))
	feed(t, "P9", m, mark(0, 50), api.Accepted)
	feed(t, "P9", m, mark(0, 51), api.Accepted, holds(1, 50))
	wantTold(t, "P9", m.Finish(), fails(0, 50))
}

func TestHorizonsSideBySide(t *testing.T) {
	m := newMonitor(t, 2, 64, "F[1,10]0", "0", "G[0,3]0", "(tU[2,5]1)")
	for i, time := range []int{9, 3, 7, 1, 8, 12} {
		feed(t, "P9", m, event(i%2, i, time, time%4), api.Accepted) // 0: 1, 3, 7, 9; 1: 3, 7
	}
	feed(t, "P9", m, mark(0, 100), api.Accepted)
	feed(t, "P9", m, mark(1, 1), api.Accepted)
	feed(t, "P9", m, mark(1, 4), api.Accepted, holds(1, 1), holds(1, 3))
	feed(t, "P9", m, mark(1, 5), api.Accepted, holds(2, 1))
	feed(t, "P9", m, mark(1, 7), api.Accepted, holds(2, 3), holds(3, 1))
	feed(t, "P9", m, mark(1, 9), api.Accepted, holds(1, 7), fails(1, 8), holds(3, 3))
	feed(t, "P6", m, event(0, 50, 9, 0), api.Accepted)
	feed(t, "P9", m, mark(1, 12), api.Accepted, holds(0, 1), holds(1, 9), fails(2, 7), fails(2, 8))
	feed(t, "P9", m, mark(1, 13), api.Accepted, fails(1, 12), fails(2, 9), fails(3, 7))
	feed(t, "P6", m, event(1, 50, 13, 3), api.Accepted)
	wantTold(t, "P9", m.Finish(),
		holds(0, 3), holds(0, 7), holds(0, 8), holds(0, 9), holds(0, 12), fails(0, 13),
		holds(1, 13),
		fails(2, 12), holds(2, 13),
		holds(3, 8), holds(3, 9), fails(3, 12), fails(3, 13))
	wantTold(t, "P9", m.Finish())
	wantCounts(t, m, false, 16, 0, 0, 0, 0, 0)
}

func TestFutureNearTheGreatestTime(t *testing.T) {
	m := newMonitor(t, 2, 4, "F[1,1]0", "G[1,1000]0", strings.Repeat("F[0,1000]", 19)+"0", "O[1,1]G[2,2]1")
	feed(t, "P6", m, event(0, 1, maxTime, 1), api.Accepted)
	feed(t, "P6", m, event(0, 2, maxTime-1, 0), api.Accepted)
	feed(t, "P6", m, event(0, 3, maxTime-2, 0), api.Accepted)
	feed(t, "P6", m, event(1, 1, maxTime-20000, 1), api.Accepted)
	feed(t, "P7", m, mark(1, maxTime), api.Accepted)
	feed(t, "P9", m, mark(0, maxTime-1), api.Accepted,
		fails(0, maxTime-20000), holds(1, maxTime-20000), holds(2, maxTime-20000), fails(3, maxTime-20000))
	feed(t, "P9", m, mark(0, maxTime), api.Accepted, fails(0, maxTime-2))
	feed(t, "P7", m, mark(0, maxTime), api.Duplicate)
	feed(t, "P7", m, shut(1), api.Accepted)
	feed(t, "P9", m, shut(0), api.Accepted,
		holds(0, maxTime-1), fails(0, maxTime),
		fails(1, maxTime-2), holds(1, maxTime-1), holds(1, maxTime),
		holds(2, maxTime-2), holds(2, maxTime-1), holds(2, maxTime),
		fails(3, maxTime-2), fails(3, maxTime-1), holds(3, maxTime))
	wantTold(t, "P9", m.Finish())
	wantCounts(t, m, false, 9, 1, 0, 0, 0, 0)
}

// A moment that is released and not told yet takes no room, and what comes in
// for it is late; what comes in at the line is seen from it.
func TestClassesHangOnNoHorizon(t *testing.T) {
	for _, formula := range []string{"F[1,1000]1", "!G[1,1000]!1", "(tU[1,1000]1)"} {
		m := newMonitor(t, 1, 1, formula)
		feed(t, "P6", m, event(0, 1, 5, 0), api.Accepted)
		feed(t, "P6", m, event(0, 2, 6, 2), api.Overflow)
		feed(t, "P7", m, mark(0, 6), api.Accepted)
		feed(t, "P6", m, event(0, 3, 5, 2), api.Late)
		feed(t, "P6", m, event(0, 1, 6, 2), api.Duplicate)
		feed(t, "P6", m, event(0, 4, 6, 0), api.Accepted)
		feed(t, "P6", m, event(0, 5, 6, 0), api.Overflow)
		feed(t, "P7", m, mark(0, 1005), api.Accepted)
		feed(t, "P6", m, event(0, 6, 1005, 2), api.Accepted)
		feed(t, "P9", m, mark(0, 1005), api.Duplicate)
		feed(t, "P9", m, "", api.Malformed)
		feed(t, "P9", m, mark(0, 1006), api.Accepted, holds(0, 5))
		feed(t, "P9", m, shut(0), api.Accepted, holds(0, 6), fails(0, 1005))
		feed(t, "P5", m, event(0, 7, 2000, 2), api.Closed)
		wantTold(t, "P9", m.Finish())
		wantCounts(t, m, true, 7, 2, 1, 1, 2, 1)
	}
}

func TestFinishTellsTheRestOnce(t *testing.T) {
	m := newMonitor(t, 3, 64, "G[0,1000]0", "F[3,3]1")
	for time := range 20 {
		feed(t, "P6", m, event(time%3, time, time, 1+time%5), api.Accepted)
	}
	feed(t, "P7", m, shut(1), api.Accepted)
	var want []api.Verdict
	for time := range 20 { // the set is 4 at 18, and 5 at 19
		want = append(want, api.Verdict{Time: time, Holds: time == 19})
	}
	for time := range 20 {
		want = append(want, api.Verdict{Formula: 1, Time: time, Holds: time+3 < 20 && (1+(time+3)%5)&2 != 0})
	}
	wantTold(t, "P9", m.Finish(), want...)
	for range 3 {
		wantTold(t, "P9", m.Finish())
	}
	feed(t, "P5", m, mark(0, 30), api.Closed)
	wantCounts(t, m, false, 21, 0, 0, 0, 0, 1)
}
