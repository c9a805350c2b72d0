// Package limb is layer 1: numbers of 64 bits, with what is carried.
package limb

import (
	"math/bits"
)

// farthest is how far a list is shifted at most, either way: an answer's size stays bounded by it.
const farthest = 1 << 16

// Add is a sum, and what is carried.
func Add(a, b, carry uint64) (uint64, uint64) {
	return bits.Add64(a, b, one(carry))
}

// Sub is a difference, and what is borrowed.
func Sub(a, b, borrow uint64) (uint64, uint64) {
	return bits.Sub64(a, b, one(borrow))
}

// Mul is a product: its upper half, and its lower one.
func Mul(a, b uint64) (uint64, uint64) {
	return bits.Mul64(a, b)
}

// Len is how many digits a number has.
func Len(l ...uint64) int {
	for i := len(l) - 1; i >= 0; i-- {
		if l[i] != 0 {
			return 64*i + bits.Len64(l[i])
		}
	}
	return 0
}

// Sum is a sum.
func Sum(a, b []uint64) []uint64 {
	var carry uint64
	return list(max(len(a), len(b))+1, func(i int) uint64 {
		var s uint64
		s, carry = Add(at(a, i), at(b, i), carry)
		return s
	})
}

// Shift is a number, shifted.
func Shift(l []uint64, n int) []uint64 {
	if n > farthest || n < -farthest {
		return nil
	}
	// n is 64 steps + by with by from 0 to 63, below 0 too: so one rule serves both ways.
	steps, by := n>>6, uint(n&63)
	return list(len(l)+steps+1, func(i int) uint64 {
		return at(l, i-steps)<<by | at(l, i-steps-1)>>(64-by)
	})
}

// Less tells whether a number is below another one.
func Less(a, b []uint64) bool {
	for i := max(len(a), len(b)) - 1; i >= 0; i-- {
		x, y := at(a, i), at(b, i)
		if x != y {
			return x < y
		}
	}
	return false
}

// Bit tells whether a digit is 1.
func Bit(l []uint64, n int) bool {
	return n >= 0 && at(l, n/64)>>uint(n%64)&1 == 1
}

// one is 1 of what isn't 0: the library's sums take nothing else as a carry.
func one(carry uint64) uint64 {
	if carry != 0 {
		return 1
	}
	return 0
}

// at is a list's limb at a place, 0 where it has none.
func at(l []uint64, i int) uint64 {
	if i < 0 || i >= len(l) {
		return 0
	}
	return l[i]
}

// list is made of what a function tells of each of n places, without limbs of 0 at the end.
// The function is asked from the lowest place on: carries rely on it.
func list(n int, tell func(i int) uint64) []uint64 {
	l := make([]uint64, max(n, 0))
	used := 0
	for i := range l {
		l[i] = tell(i)
		if l[i] != 0 {
			used = i + 1
		}
	}
	return l[:used]
}
