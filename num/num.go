// Package num is layer 1: see shared/doc/01-num.md.
package num

import "math"

// Add two numbers.
func Add(a, b int) (int, bool) {
	sum := a + b
	// A sum wrapped round just if both numbers have the sign that it hasn't.
	if (a^sum)&(b^sum) < 0 {
		return 0, false
	}
	return sum, true
}

// Sub one number from another one.
func Sub(a, b int) (int, bool) {
	diff := a - b
	// A difference wrapped round just if a's sign is neither b's nor its own.
	if (a^b)&(a^diff) < 0 {
		return 0, false
	}
	return diff, true
}

// Mul two numbers.
func Mul(a, b int) (int, bool) {
	if b == 0 {
		return 0, true
	}
	// The division below can't tell that the least int times -1 wrapped round:
	// it wraps round as well.
	if b == -1 {
		return Sub(0, a)
	}
	product := a * b
	if product/b != a {
		return 0, false
	}
	return product, true
}

// Quo: a quotient, cut towards 0.
func Quo(a, b int) (int, bool) {
	if !hasQuotient(a, b) {
		return 0, false
	}
	return a / b, true
}

// Rem: what Quo leaves.
func Rem(a, b int) (int, bool) {
	if !hasQuotient(a, b) {
		return 0, false
	}
	return a % b, true
}

// Floor of a quotient.
func Floor(a, b int) (int, bool) {
	if !hasQuotient(a, b) {
		return 0, false
	}
	// Only a quotient below 0 was cut upwards.
	if a%b != 0 && (a < 0) != (b < 0) {
		return a/b - 1, true
	}
	return a / b, true
}

// Ceil of a quotient.
func Ceil(a, b int) (int, bool) {
	if !hasQuotient(a, b) {
		return 0, false
	}
	// Only a quotient above 0 was cut downwards.
	if a%b != 0 && (a < 0) == (b < 0) {
		return a/b + 1, true
	}
	return a / b, true
}

// hasQuotient: is there a quotient of the two, and is it an int?
func hasQuotient(a, b int) bool {
	return b != 0 && (a != math.MinInt || b != -1)
}
