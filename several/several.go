// Package several: one number told of any number of them.
package several

import "math"

// Greatest tells the greatest of the numbers. Of no numbers it is 0, so that
// a formula in which nothing stands needs no case of its own.
func Greatest(numbers ...int) int {
	if len(numbers) == 0 {
		return 0
	}
	greatest := numbers[0]
	for _, number := range numbers[1:] {
		if number > greatest {
			greatest = number
		}
	}
	return greatest
}

// Least tells the least of the numbers. Of no numbers it is above everything,
// as the line is if no source is open.
func Least(numbers ...int) int {
	least := math.MaxInt
	for _, number := range numbers {
		if number < least {
			least = number
		}
	}
	return least
}

// Sum tells the numbers together.
func Sum(numbers ...int) int {
	sum := 0
	for _, number := range numbers {
		sum += number
	}
	return sum
}
