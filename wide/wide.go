// Package wide is layer 2: numbers of 512 bits.
package wide

import (
	"radicand/api"
	"radicand/limb"
)

// size is how many bits a wide has.
const size = 512

// Of is the number of limbs.
func Of(l ...uint64) api.Wide {
	return each(func(i int) uint64 {
		if i < len(l) {
			return l[i]
		}
		return 0
	})
}

// Power is a power of 2.
func Power(n int) api.Wide {
	if n < 0 {
		return api.Wide{}
	}
	return Shl(Of(1), n)
}

// Mask is as many ones.
func Mask(n int) api.Wide {
	// From 512 on the power is 0, and 0 without 1 is all ones.
	m, _ := Sub(Power(max(n, 0)), Of(1))
	return m
}

// Add is a sum.
func Add(a, b api.Wide) (api.Wide, bool) {
	return chain(limb.Add, a, b)
}

// Sub is a difference.
func Sub(a, b api.Wide) (api.Wide, bool) {
	return chain(limb.Sub, a, b)
}

// Cmp holds two against each other.
func Cmp(a, b api.Wide) int {
	switch {
	case a == b:
		return 0
	case limb.Less(a[:], b[:]):
		return -1
	}
	return 1
}

// Shl is a number, shifted up.
func Shl(a api.Wide, n int) api.Wide {
	return moved(a, room(n), 0)
}

// Shr is a number, shifted down, and whether something was lost.
func Shr(a api.Wide, n int) (api.Wide, bool) {
	q := moved(a, -room(n), 0)
	return q, Shl(q, n) != a
}

// Minus tells whether a number, taken with a sign, is below 0.
func Minus(a api.Wide) bool {
	return Bit(a, size-1)
}

// Sar is a number with a sign, shifted down.
func Sar(a api.Wide, n int) api.Wide {
	var above uint64
	if Minus(a) {
		above = ^above
	}
	return moved(a, -room(n), above)
}

// Neg is 0 without a number.
func Neg(a api.Wide) api.Wide {
	d, _ := Sub(api.Wide{}, a)
	return d
}

// Len is how many digits a number has.
func Len(a api.Wide) int {
	return limb.Len(a[:]...)
}

// Bit tells whether a digit is 1.
func Bit(a api.Wide, n int) bool {
	return limb.Bit(a[:], n)
}

// Low is a number's lowest bits.
func Low(a api.Wide) api.Word {
	return api.Word{Hi: a[1], Lo: a[0]}
}

// From is a word's number.
func From(w api.Word) api.Wide {
	return Of(w.Lo, w.Hi)
}

// each is the wide that is made of what a function tells of each place.
// The function is asked from the lowest place on: carries rely on it.
func each(tell func(i int) uint64) api.Wide {
	var w api.Wide
	for i := range w {
		w[i] = tell(i)
	}
	return w
}

// chain does a limb's sum or difference at each place, and hands on what is carried, or borrowed.
func chain(do func(a, b, carry uint64) (uint64, uint64), a, b api.Wide) (api.Wide, bool) {
	var carry uint64
	w := each(func(i int) uint64 {
		var r uint64
		r, carry = do(a[i], b[i], carry)
		return r
	})
	return w, carry != 0
}

// room keeps a shift from 0 to size: beyond it nothing changes any more.
func room(n int) int {
	return min(max(n, 0), size)
}

// moved is a times 2^n, rounded down, with what stands in the places above a's own.
func moved(a api.Wide, n int, above uint64) api.Wide {
	at := func(i int) uint64 {
		switch {
		case i < 0:
			return 0
		case i >= len(a):
			return above
		}
		return a[i]
	}
	// n is 64 steps + by with by from 0 to 63, below 0 too: so one rule serves both ways.
	steps, by := n>>6, uint(n&63)
	return each(func(i int) uint64 {
		return at(i-steps)<<by | at(i-steps-1)>>(64-by)
	})
}
