package logic

// Moment is a time at which there were events, and the set of what holds there.
type Moment struct {
	Time int
	Set  byte
}

// Has tells whether the proposition is in the moment's set.
func (m Moment) Has(proposition int) bool {
	return m.Set>>proposition&1 == 1
}
