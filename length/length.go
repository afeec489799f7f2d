// Package length is layer 1: see shared/doc/01-length.md.
package length

import (
	"math/bits"

	"evergreen/api"
)

// Valid reports whether n is the length of a text: 0 to MaxLength.
func Valid(n int) bool {
	return n >= 0 && n <= api.MaxLength
}

// Add returns a + b.
func Add(a, b int) (int, error) {
	if !Valid(a) || !Valid(b) {
		return 0, api.ErrRange
	}
	// Two valid lengths add up to at most 2^61, which fits into an int.
	if a+b > api.MaxLength {
		return 0, api.ErrLong
	}
	return a + b, nil
}

// Sub returns a - b.
func Sub(a, b int) (int, error) {
	if !Valid(a) || !Valid(b) || b > a {
		return 0, api.ErrRange
	}
	return a - b, nil
}

// Mul returns a * k.
func Mul(a, k int) (int, error) {
	if !Valid(a) || k < 0 {
		return 0, api.ErrRange
	}
	// The product may not fit into an int: k is compared with a quotient instead.
	if a > 0 && k > api.MaxLength/a {
		return 0, api.ErrLong
	}
	return a * k, nil
}

// Sum returns the sum of lengths.
func Sum(list ...int) (int, error) {
	total := 0
	for _, n := range list {
		next, err := Add(total, n)
		if err != nil {
			return 0, err
		}
		total = next
	}
	return total, nil
}

// Log returns the binary logarithm, rounded down; -1 for n < 1.
func Log(n int) int {
	if n < 1 {
		return -1
	}
	return bits.Len(uint(n)) - 1
}

// Range returns nil if the range lies within the length.
func Range(from, n, length int) error {
	// from + n may not fit into an int; length - from does, as neither is negative.
	if !Valid(length) || from < 0 || n < 0 || n > length-from {
		return api.ErrRange
	}
	return nil
}

// Clip returns n, moved into low .. high; low goes first if the two are exchanged.
func Clip(n, low, high int) int {
	if n < low {
		return low
	}
	if n > high {
		return high
	}
	return n
}
