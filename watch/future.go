package watch

import "tempo/logic"

// future is what F, G and U wait with, all of it times in order: the moments
// that are not settled yet, those that may be the one for which they look, and
// those at which what must last until then does not.
type future struct {
	open   []int
	goals  []int
	breaks []int
}

// add takes the next moment: whether what must last holds there, and whether
// what is looked for does.
func (f *future) add(time int, lasts, reached bool) {
	f.open = append(f.open, time)
	if reached {
		f.goals = append(f.goals, time)
	}
	if !lasts {
		f.breaks = append(f.breaks, time)
	}
}

// isSettled tells whether the first open moment is below that line.
func (f *future) isSettled(line int) bool {
	return len(f.open) > 0 && f.open[0] < line
}

// next takes the first open moment, and tells whether there is a goal at a
// distance within the interval, and no break ahead of that goal. If any goal
// is one, the first that is far enough is; moments behind look no less far, so
// that what lies ahead of it is not needed any more.
func (f *future) next(within logic.Interval) (time int, reached bool) {
	time, f.open = f.open[0], f.open[1:]
	f.goals = from(f.goals, time+within.Low)
	f.breaks = from(f.breaks, time)
	if len(f.goals) == 0 || !within.Has(f.goals[0]-time) {
		return time, false
	}
	return time, len(f.breaks) == 0 || f.breaks[0] >= f.goals[0]
}

// from drops the times below the first one that is asked for.
func from(times []int, first int) []int {
	for len(times) > 0 && times[0] < first {
		times = times[1:]
	}
	return times
}
