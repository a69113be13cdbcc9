package several_test

import (
	"math"
	"slices"
	"testing"

	"tempo/several"
)

// wantOf asks for one list of numbers, and that it stays as it is.
func wantOf(t *testing.T, name string, call func(...int) int, want int, numbers ...int) {
	t.Helper()
	before := slices.Clone(numbers)
	if got := call(numbers...); got != want {
		t.Errorf("%s(%v) = %d, want %d", name, numbers, got, want)
	}
	if !slices.Equal(before, numbers) {
		t.Errorf("%s changed its numbers: %v, were %v", name, numbers, before)
	}
}

func TestGreatestLeastAndSum(t *testing.T) {
	for _, c := range []struct {
		numbers              []int
		greatest, least, sum int
	}{
		{nil, 0, math.MaxInt, 0},
		{[]int{7}, 7, 7, 7},
		{[]int{-7}, -7, -7, -7},
		{[]int{3, 9}, 9, 3, 12},
		{[]int{9, 3}, 9, 3, 12},
		{[]int{-2, -1, -3}, -1, -3, -6},
		{[]int{4, 4, 4, 4}, 4, 4, 16},
		{[]int{math.MinInt, math.MaxInt, 0}, math.MaxInt, math.MinInt, -1},
		{[]int{math.MinInt}, math.MinInt, math.MinInt, math.MinInt},
		{[]int{math.MaxInt}, math.MaxInt, math.MaxInt, math.MaxInt},
		{[]int{1 << 62, 0}, 1 << 62, 0, 1 << 62},
	} {
		wantOf(t, "Greatest", several.Greatest, c.greatest, c.numbers...)
		wantOf(t, "Least", several.Least, c.least, c.numbers...)
		wantOf(t, "Sum", several.Sum, c.sum, c.numbers...)
	}
}

func TestAnyNumberOfArguments(t *testing.T) {
	if several.Greatest() != 0 || several.Greatest(1) != 1 || several.Greatest(1, 2) != 2 || several.Greatest(5, 1, 4, 2, 3) != 5 {
		t.Errorf("Greatest of arguments that are written out")
	}
	if several.Least() != math.MaxInt || several.Least(1) != 1 || several.Least(2, 1) != 1 || several.Least(5, 2, 4, 1, 3) != 1 {
		t.Errorf("Least of arguments that are written out")
	}
	if several.Sum() != 0 || several.Sum(1) != 1 || several.Sum(2, 1) != 3 || several.Sum(5, 2, 4, 1, 3) != 15 {
		t.Errorf("Sum of arguments that are written out")
	}
}
