package tempo_test

import (
	"strings"
	"testing"

	"tempo/api"
)

func TestEachKindOfFormula(t *testing.T) {
	times := []int{2, 3, 5, 9, 10, 20}
	sets := []int{3, 1, 0, 2, 1, 130} // 0: TTFFTF, 1: TFFTFT, 7: FFFFFT
	for formula, want := range map[string]string{
		"0": "TTFFTF", "1": "TFFTFT", "2": "FFFFFF", "7": "FFFFFT", "t": "TTTTTT",
		"!0": "FFTTFT", "!t": "FFFFFF", "!!0": "TTFFTF",
		"(0&1)": "TFFFFF", "(0|1)": "TTFTTT", "(0&t)": "TTFFTF", "(0|t)": "TTTTTT",
		"O[0,0]0": "TTFFTF", "O[0,i]7": "FFFFFT", "O[1,i]0": "FTTTTT", "O[2,3]0": "FFTFFF", "O[6,8]0": "FFFTTF", "O[10,10]0": "FFFFFT", "O[0,1]1": "TTFTTT",
		"H[0,0]0": "TTFFTF", "H[0,i]0": "TTFFFF", "H[1,i]0": "TTTFFF", "H[2,3]0": "TTTTTT", "H[4,4]0": "TTTFTT", "H[6,i]0": "TTTTTF", "H[1,1]1": "TTTTTT", "H[1,1]!0": "TFTTTT",
		"(0S[0,i]1)": "TTFTTT", "(0S[1,i]1)": "FTFFTF", "(1S[0,i]0)": "TTFFTT", "(tS[4,7]1)": "FFFTFF", "(!0S[0,i]0)": "TTTTTT", "(!0S[2,6]0)": "FFTTFF", "(!0S[2,5]0)": "FFTFFF", "(0S[0,0]0)": "TTFFTF", "(!tS[0,i]1)": "TFFTFT", "(!tS[1,i]t)": "FFFFFF",
	} {
		wantBothWays(t, formula, times, sets, want)
	}
}

func TestNestedFormulas(t *testing.T) {
	times := []int{0, 1, 2, 3, 5, 8}
	sets := []int{1, 2, 0, 3, 1, 2} // 0: TFFTTF, 1: FTFTFT
	for formula, want := range map[string]string{
		"O[1,1]O[1,1]0":                     "FFTFFF",
		"O[1,2]O[1,2]0":                     "FFTTFF",
		"H[0,1]O[0,1](0|1)":                 "TTTTTT",
		"O[0,i](0&1)":                       "FFFTTT",
		"!O[0,i](0&1)":                      "TTTFFF",
		"(O[1,i]0&!O[1,2]0)":                "FFFTFT",
		"H[1,i](0|O[1,1]0)":                 "TTTFFF",
		"((0|1)S[0,i](0&!1))":               "TTFFTT",
		"((1S[0,i]0)S[1,i]O[0,0]1)":         "FFFFTT",
		"(O[2,3]0|(0S[1,2]1))":              "FFTTTT",
		"(t&(t&(t&(t&(t&(t&(t&(t&1))))))))": "FTFTFT",
		"!(!O[1,2]1|!H[1,2](0|1))":          "FFTFTF",
	} {
		wantBothWays(t, formula, times, sets, want)
	}
	wantBothWays(t, strings.Repeat("!", 19)+"0", times, sets, "FTTFFT")
	wantBothWays(t, strings.Repeat("O[0,0]", 19)+"0", times, sets, "TFFTTF")
	wantBothWays(t, strings.Repeat("O[1,1]", 3)+"0", times, sets, "FFFTFF")
}

// At the first moment there is nothing ahead of it.
func TestTheFirstMoment(t *testing.T) {
	for _, time := range []int{0, 1, 999, 1000, 1001, maxTime - 1} {
		for formula, want := range map[string]string{
			"O[0,0]0": "T", "O[0,0]1": "F", "O[1,i]t": "F", "O[1,1000]t": "F", "O[1000,1000]t": "F",
			"H[0,0]0": "T", "H[0,0]1": "F", "H[1,i]1": "T", "H[1000,i]1": "T", "H[1,1000]!t": "T",
			"(1S[0,0]0)": "T", "(0S[0,i]1)": "F", "(tS[1,i]t)": "F",
		} {
			wantAnswers(t, formula, []int{time}, []int{1}, want)
		}
	}
}

// Two moments: what holds at the first one is seen from the second one just if
// the distance is in the interval.
func TestDistancesAtTheEndsOfIntervals(t *testing.T) {
	answer := func(holds bool) string {
		return map[bool]string{true: "T", false: "F"}[holds]
	}
	for _, ends := range [][2]int{{0, 0}, {0, 1}, {1, 1}, {1, 2}, {3, 7}, {9, 10}, {0, 1000}, {999, 1000}, {1000, 1000}, {500, -1}, {0, -1}, {1, -1}, {1000, -1}} {
		low, high, within := ends[0], ends[1], "["+decimal(ends[0])+","
		if high < 0 {
			high, within = maxTime, within+"i]"
		} else {
			within += decimal(high) + "]"
		}
		for _, distance := range []int{1, 2, low - 1, low, low + 1, ends[1] - 1, ends[1], ends[1] + 1, 1001, 5000, maxTime - 1} {
			if distance < 1 || distance >= maxTime {
				continue
			}
			in := distance >= low && distance <= high
			for _, first := range []int{0, 77, maxTime - 1 - distance} {
				if first+distance >= maxTime {
					continue
				}
				times, sets := []int{first, first + distance}, []int{1, 2}
				here := answer(low == 0)
				wantAnswers(t, "O"+within+"0", times, sets, here+answer(in))
				wantAnswers(t, "H"+within+"!0", times, sets, answer(low != 0)+answer(!in))
				wantAnswers(t, "(1S"+within+"0)", times, sets, here+answer(in))
				wantAnswers(t, "(0S"+within+"0)", times, sets, here+"F")
			}
		}
	}
}

// S looks for any of the moments at which its right side holds, as long as its
// left side holds from behind it on.
func TestSinceChoosesAnyMoment(t *testing.T) {
	for _, c := range []struct {
		formula string
		times   []int
		sets    []int
		want    string
	}{
		{"(0S[2,3]1)", []int{0, 1, 2, 3, 4, 5, 6}, []int{2, 3, 3, 1, 1, 1, 1}, "FFTTTTF"},
		{"(0S[2,3]1)", []int{0, 1, 2, 3, 4, 5, 6}, []int{2, 3, 3, 1, 0, 1, 1}, "FFTTFFF"},
		{"(0S[2,3]1)", []int{0, 1, 2, 3, 4, 5, 6}, []int{2, 3, 2, 1, 1, 1, 1}, "FFFFTTF"},
		{"(0S[0,3]1)", []int{0, 2, 4, 6, 8}, []int{2, 1, 3, 1, 1}, "TTTTF"},
		{"(0S[3,i]1)", []int{0, 2, 4, 6, 8}, []int{2, 1, 3, 1, 1}, "FFTTT"},
		{"(0S[3,i]1)", []int{0, 2, 4, 6, 8, 20}, []int{2, 1, 2, 1, 1, 1}, "FFFFTT"},
		{"(0S[5,5]1)", []int{0, 1, 2, 3, 4, 5, 6, 7, 8, 9}, []int{2, 3, 1, 3, 1, 1, 1, 1, 1, 1}, "FFFFFTTFTF"},
	} {
		wantBothWays(t, c.formula, c.times, c.sets, c.want)
	}
}

// A moment is told of just once, by the call that lifts the line above it, and
// what is told stands by the formulas' numbers, then by the times.
func TestToldInOrder(t *testing.T) {
	m := newMonitor(t, 2, 64, "O[1,1]0", "0", "t", "!0")
	for i, time := range []int{9, 3, 7, 1, 8} {
		feed(t, "P9", m, event(i%2, i, time, time%2), api.Accepted)
	}
	feed(t, "P9", m, mark(1, 100), api.Accepted)
	feed(t, "P9", m, mark(0, 1), api.Accepted)
	feed(t, "P9", m, mark(0, 8), api.Accepted,
		fails(0, 1), fails(0, 3), fails(0, 7), holds(1, 1), holds(1, 3), holds(1, 7),
		holds(2, 1), holds(2, 3), holds(2, 7), fails(3, 1), fails(3, 3), fails(3, 7))
	feed(t, "P9", m, mark(0, 9), api.Accepted, holds(0, 8), fails(1, 8), holds(2, 8), holds(3, 8))
	feed(t, "P9", m, event(0, 9, 11, 0), api.Accepted)
	wantTold(t, "P9", m.Finish(),
		fails(0, 9), fails(0, 11), holds(1, 9), fails(1, 11), holds(2, 9), holds(2, 11), fails(3, 9), holds(3, 11))
}

// What two formulas remember is not shared, nor what two monitors do.
func TestFormulasDoNotMeet(t *testing.T) {
	a := newMonitor(t, 1, 2, "O[0,i]0", "O[0,i]1", "O[0,i]0", "(1S[0,i]0)")
	b := newMonitor(t, 1, 2, "O[0,i]0")
	feed(t, "P9", a, event(0, 1, 5, 1), api.Accepted)
	feed(t, "P9", a, mark(0, 6), api.Accepted, holds(0, 5), fails(1, 5), holds(2, 5), holds(3, 5))
	feed(t, "P9", b, event(0, 1, 6, 2), api.Accepted)
	feed(t, "P9", b, mark(0, 7), api.Accepted, fails(0, 6))
	feed(t, "P9", a, event(0, 2, 7, 0), api.Accepted)
	wantTold(t, "P9", a.Finish(), holds(0, 7), fails(1, 7), holds(2, 7), fails(3, 7))
	feed(t, "P9", b, event(0, 2, 7, 1), api.Accepted)
	wantTold(t, "P9", b.Finish(), holds(0, 7))
}
