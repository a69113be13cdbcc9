package several_test

import (
	"math"
	"slices"
	"testing"

	"tempo/several"
)

func TestGreatest(t *testing.T) {
	for _, c := range []struct {
		numbers []int
		want    int
	}{
		{nil, 0},
		{[]int{7}, 7},
		{[]int{-7}, -7},
		{[]int{3, 9}, 9},
		{[]int{9, 3}, 9},
		{[]int{-2, -1, -3}, -1},
		{[]int{4, 4, 4, 4}, 4},
		{[]int{math.MinInt, math.MaxInt, 0}, math.MaxInt},
		{[]int{math.MinInt}, math.MinInt},
	} {
		before := slices.Clone(c.numbers)
		if got := several.Greatest(c.numbers...); got != c.want {
			t.Errorf("Greatest(%v) = %d, want %d", c.numbers, got, c.want)
		}
		if !slices.Equal(before, c.numbers) {
			t.Errorf("Greatest changed its numbers: %v, were %v", c.numbers, before)
		}
	}
}

func TestGreatestTakesAnyNumberOfArguments(t *testing.T) {
	if several.Greatest() != 0 || several.Greatest(1) != 1 || several.Greatest(1, 2) != 2 || several.Greatest(5, 1, 4, 2, 3) != 5 {
		t.Errorf("Greatest of arguments that are written out")
	}
}
