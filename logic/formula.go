// Package logic: formulas over time, read from their texts into trees.
package logic

import "tempo/several"

// Interval holds the distances from Low on up to High or, if it is Endless,
// from Low on.
type Interval struct {
	Low, High int
	Endless   bool
}

// Has tells whether the distance is in the interval.
func (within Interval) Has(distance int) bool {
	return distance >= within.Low && (within.Endless || distance <= within.High)
}

// Formula is a sign and what stands in it: no part for a proposition and t,
// two for the signs within brackets, one for all others. Within counts only
// for the signs that have an interval.
type Formula struct {
	Sign   byte
	Within Interval
	Parts  []Formula
}

// Horizon tells how far the formula looks into the future.
func (f Formula) Horizon() int {
	horizons := make([]int, 0, len(f.Parts))
	for _, part := range f.Parts {
		horizons = append(horizons, part.Horizon())
	}
	horizon := several.Greatest(horizons...)
	if looksAhead(f.Sign) {
		horizon += f.Within.High
	}
	return horizon
}

func looksBack(sign byte) bool {
	return sign == 'O' || sign == 'H' || sign == 'S'
}

func looksAhead(sign byte) bool {
	return sign == 'F' || sign == 'G' || sign == 'U'
}
