package tempo_test

import (
	"slices"
	"strings"
	"testing"

	"tempo/api"
	"tempo/tempo"
)

// wantAnswers asks a formula at each of the times, T or F: with events that
// come in just ahead of the line, and a line that is first right at a moment's
// time and horizon together and then right above it; and with all moments
// released at once, their events coming in from behind.
func wantAnswers(t *testing.T, formula string, times []int, sets []int, want string) {
	t.Helper()
	horizon, _ := tempo.Horizon(formula)
	verdicts := make([]api.Verdict, len(times))
	lines := make([]int, 0, 2*len(times))
	for i, time := range times {
		verdicts[i] = api.Verdict{Time: time, Holds: want[i] == 'T'}
		lines = append(lines, time+horizon, time+horizon+1)
	}
	slices.Sort(lines)
	stepwise := newMonitor(t, 1, api.MaxRoom, formula)
	fed, told := 0, 0
	for _, line := range slices.Compact(lines) {
		if line == 0 || line > maxTime {
			continue
		}
		for ; fed < len(times) && times[fed] < line; fed++ {
			feed(t, "P6", stepwise, event(0, fed, times[fed], sets[fed]), api.Accepted)
		}
		next := told
		for told < len(times) && times[told]+horizon < line {
			told++
		}
		feed(t, "P9, "+formula, stepwise, mark(0, line), api.Accepted, verdicts[next:told]...)
	}
	for ; fed < len(times); fed++ {
		feed(t, "P6", stepwise, event(0, fed, times[fed], sets[fed]), api.Accepted)
	}
	feed(t, "P9, "+formula, stepwise, shut(0), api.Accepted, verdicts[told:]...)
	wantTold(t, "P9, "+formula, stepwise.Finish())
	atOnce := newMonitor(t, 1, api.MaxRoom, formula)
	for i, time := range slices.Backward(times) {
		feed(t, "P6", atOnce, event(0, i, time, sets[i]), api.Accepted)
	}
	wantTold(t, "P9, "+formula, atOnce.Finish(), verdicts...)
}

// wantBothWays asks a formula of the past, and the same turned to the future,
// with the moments the other way round.
func wantBothWays(t *testing.T, formula string, times []int, sets []int, want string) {
	t.Helper()
	wantAnswers(t, formula, times, sets, want)
	turned := strings.NewReplacer("O", "F", "H", "G", "S", "U", "i", "1000").Replace(formula)
	turnedTimes, turnedSets, turnedWant := slices.Clone(times), slices.Clone(sets), []byte(want)
	slices.Reverse(turnedTimes)
	slices.Reverse(turnedSets)
	slices.Reverse(turnedWant)
	for i := range turnedTimes {
		turnedTimes[i] = times[len(times)-1] - turnedTimes[i]
	}
	wantAnswers(t, turned, turnedTimes, turnedSets, string(turnedWant))
}
