// Package sat is layer 1: numbers that stay in their range: see shared/doc/01-sat.md.
package sat

import (
	"nightjar/api"
)

// Clamp is the nearest number from 0 to Most.
func Clamp(n int) int {
	return min(max(n, 0), api.Most)
}

// Add is a and b together, Most at most.
func Add(a, b int) int {
	return Clamp(Clamp(a) + Clamp(b))
}

// Sub is a less b, 0 at least.
func Sub(a, b int) int {
	return Clamp(Clamp(a) - Clamp(b))
}

// Mul is a times b, Most at most.
func Mul(a, b int) int {
	a, b = Clamp(a), Clamp(b)
	// The product itself could pass 2^63, so it is made only if it is known to be small.
	if b > 0 && a > api.Most/b {
		return api.Most
	}
	return a * b
}

// Sum is all of l together, Most at most.
func Sum(l ...int) int {
	total := 0
	for _, n := range l {
		total = Add(total, n)
	}
	return total
}

// Mean is the Sum of l divided by how many there are, without rest.
func Mean(l ...int) int {
	if len(l) == 0 {
		return 0
	}
	return Sum(l...) / len(l)
}
