// Package scalar is layer 1: numbers that don't go round unseen.
package scalar

import "math"

// Add is a sum, and true; 0, false, if it goes round.
func Add(a, b int64) (int64, bool) {
	n := a + b
	if (n > a) != (b > 0) {
		return 0, false
	}
	return n, true
}

// Sub is a difference, and true; 0, false, if it goes round.
func Sub(a, b int64) (int64, bool) {
	n := a - b
	if (n < a) != (b > 0) {
		return 0, false
	}
	return n, true
}

// Mul is a product, and true; 0, false, if it goes round.
func Mul(a, b int64) (int64, bool) {
	if b == 0 {
		return 0, true
	}
	n := a * b
	// The quotient of the least number by -1 goes round as the product did: dividing can't tell there.
	if b == -1 && a == math.MinInt64 || n/b != a {
		return 0, false
	}
	return n, true
}

// Up is the least number that, times b, is at least a; 0, if a or b is below 1.
func Up(a, b int64) int64 {
	if a < 1 || b < 1 {
		return 0
	}
	// a + b - 1 might go round; a - 1 never does.
	return (a-1)/b + 1
}

// Clamp is n, or the bound that it passes; low, if low is above high.
func Clamp(n, low, high int64) int64 {
	if low > high || n < low {
		return low
	}
	if n > high {
		return high
	}
	return n
}

// Within tells whether n is neither below low nor above high.
func Within(n, low, high int64) bool {
	return low <= n && n <= high
}

// Sum is all numbers together, and true; 0, false, as soon as a sum goes round, even if later ones would bring it back.
func Sum[T ~int | ~int64](list []T) (int64, bool) {
	total := int64(0)
	for _, n := range list {
		next, ok := Add(total, int64(n))
		if !ok {
			return 0, false
		}
		total = next
	}
	return total, true
}
