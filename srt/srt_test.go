package srt

import (
	"math"
	"math/big"
	"slices"
	"testing"

	"radicand/api"
	"radicand/wide"
)

const ones64 = math.MaxUint64

// full is 2^512 - 1.
var full = api.Wide{ones64, ones64, ones64, ones64, ones64, ones64, ones64, ones64}

// greatestD is the greatest divisor, 2^120 - 1, and greatestN the greatest dividend of all, 2^128 of it without 1.
var (
	greatestD = api.Wide{ones64, ones64 >> 8}
	greatestN = api.Wide{ones64, ones64, ones64 - 1, ones64 >> 8}
)

func toBig(a api.Wide) *big.Int {
	z := new(big.Int)
	for i := len(a) - 1; i >= 0; i-- {
		z.Lsh(z, 64).Or(z, new(big.Int).SetUint64(a[i]))
	}
	return z
}

// fromBig is z modulo 2^512.
func fromBig(z *big.Int) api.Wide {
	var w api.Wide
	z = new(big.Int).And(z, toBig(full))
	for i := range w {
		w[i] = new(big.Int).And(z, new(big.Int).SetUint64(ones64)).Uint64()
		z.Rsh(z, 64)
	}
	return w
}

func power(n int) *big.Int {
	return new(big.Int).Lsh(big.NewInt(1), uint(n))
}

// ones is as many ones.
func ones(n int) *big.Int {
	return new(big.Int).Sub(power(n), big.NewInt(1))
}

func plus(z *big.Int, n int64) *big.Int {
	return new(big.Int).Add(z, big.NewInt(n))
}

func product(z *big.Int, n int64) *big.Int {
	return new(big.Int).Mul(z, big.NewInt(n))
}

// mixed are numbers of all lengths from 1 to a greatest one.
func mixed(greatest int) []*big.Int {
	var l []*big.Int
	mix := uint64(0x0fedcba987654321)
	for n := 1; n <= greatest; n += 1 + greatest/23 {
		z := new(big.Int)
		for range 8 {
			mix = mix*6364136223846793005 + 1442695040888963407
			z.Lsh(z, 64).Or(z, new(big.Int).SetUint64(mix^mix>>29))
		}
		l = append(l, z.And(z, ones(n)).SetBit(z, n-1, 1))
	}
	return l
}

// divisors are those that may be, at both ends of each row, and those that may not.
func divisors() []*big.Int {
	l := []*big.Int{new(big.Int), big.NewInt(1), big.NewInt(2), big.NewInt(3), big.NewInt(4), big.NewInt(5), big.NewInt(7), big.NewInt(10),
		ones(63), power(63), plus(power(63), 1), ones(64), power(64), plus(power(64), 1), ones(119), power(119), plus(power(119), 1), plus(ones(120), -1), ones(120),
		power(120), plus(power(120), 1), power(128), ones(192), power(384), power(511), ones(512)}
	for row := int64(8); row < 16; row++ {
		least := product(power(116), row)
		l = append(l, least, plus(new(big.Int).Add(least, power(116)), -1))
	}
	return append(l, mixed(130)...)
}

// dividends are those on both sides of what a divisor may divide, those near to it, and others.
func dividends(d *big.Int) []*big.Int {
	bound := new(big.Int).Lsh(d, 128)
	l := []*big.Int{new(big.Int), big.NewInt(1), big.NewInt(100), power(127), power(128), ones(128), power(247), ones(248), power(248), power(256), power(511), ones(512),
		plus(bound, -1), bound, plus(bound, 1), new(big.Int).Lsh(d, 127), plus(new(big.Int).Lsh(d, 127), -1), plus(d, -1), d, plus(d, 1), product(d, 2), plus(product(d, 2), -1),
		// Just what leaves 0 and the divisor without 1 behind many ones, and behind thirds.
		new(big.Int).Sub(bound, d), plus(new(big.Int).Sub(bound, d), -1), new(big.Int).Mul(d, new(big.Int).Div(ones(128), big.NewInt(3)))}
	l = append(l, mixed(260)...)
	return slices.DeleteFunc(l, func(n *big.Int) bool { return n.Sign() < 0 || n.BitLen() > 512 })
}

// pairs hands each dividend and each divisor on, and what layer 11 has to tell of them.
func pairs(do func(n, d *big.Int, e api.Errno)) {
	for _, d := range divisors() {
		for _, n := range dividends(d) {
			e := api.OK
			switch {
			case d.Sign() == 0:
				e = api.ErrZero
			case d.Cmp(power(120)) >= 0, n.Cmp(new(big.Int).Lsh(d, 128)) >= 0:
				e = api.ErrRange
			}
			do(n, d, e)
		}
	}
}

// upwards is how much a divisor is shifted up.
func upwards(d *big.Int) int {
	return 128 - d.BitLen()
}

// notBelow is the least whole number that isn't below a / 3.
func notBelow(a int64) int64 {
	third, rest := new(big.Int).DivMod(big.NewInt(a), big.NewInt(3), new(big.Int))
	if rest.Sign() != 0 {
		return third.Int64() + 1
	}
	return third.Int64()
}

// digitBig is the digit by the words of chapter 14, for a divisor that is shifted up and what is left, in sixteenths.
func digitBig(up, left *big.Int) int64 {
	i := new(big.Int).Rsh(up, 124).Int64()
	for k, bound := range []int64{notBelow(4 * (i + 1)), notBelow(i + 1), notBelow(-2 * i), notBelow(-5 * i)} {
		if big.NewInt(bound).Cmp(left) <= 0 {
			return int64(2 - k)
		}
	}
	return -2
}

// stepsBig are the digits and all that is left, at first the dividend, by the words of the chapter.
func stepsBig(n, d *big.Int) ([]int, []*big.Int) {
	up := new(big.Int).Lsh(d, uint(upwards(d)))
	left := new(big.Int).Lsh(n, uint(upwards(d)))
	var digits []int
	l := []*big.Int{left}
	for place := 128; place >= 0; place -= 2 {
		// Rsh rounds down, below 0 too.
		k := digitBig(up, new(big.Int).Rsh(left, uint(place+124)))
		left = new(big.Int).Sub(left, new(big.Int).Lsh(product(up, k), uint(place)))
		digits, l = append(digits, int(k)), append(l, left)
	}
	return digits, l
}

// number is what digits of base 4 are worth.
func number(l []int) *big.Int {
	z := new(big.Int)
	for _, k := range l {
		z = plus(product(z, 4), int64(k))
	}
	return z
}

func TestNorm(t *testing.T) {
	for _, d := range append(divisors(), mixed(512)...) {
		up, by, ok := Norm(fromBig(d))
		if d.Sign() == 0 || d.BitLen() > 120 {
			if up != (api.Wide{}) || by != 0 || ok {
				t.Errorf("Norm(%x): %x, %d, %v", d, up, by, ok)
			}
			continue
		}
		if !ok || by != upwards(d) || toBig(up).Cmp(new(big.Int).Lsh(d, uint(by))) != 0 || toBig(up).BitLen() != 128 {
			t.Errorf("Norm(%x): %x, %d, %v", d, up, by, ok)
		}
	}
	// Written out, not reckoned.
	for _, c := range []struct {
		d, up api.Wide
		by    int
		ok    bool
	}{
		{},
		{api.Wide{1}, api.Wide{1: 1 << 63}, 127, true},
		{api.Wide{2}, api.Wide{1: 1 << 63}, 126, true},
		{api.Wide{5}, api.Wide{1: 5 << 61}, 125, true},
		{api.Wide{ones64, ones64 >> 8}, api.Wide{ones64 - 255, ones64}, 8, true},
		{api.Wide{1: 1 << 55}, api.Wide{1: 1 << 63}, 8, true},
		{d: api.Wide{1: 1 << 56}},
		{d: api.Wide{0: 1, 1: 1 << 56}},
		{d: api.Wide{2: 1}},
		{d: api.Wide{0: 1, 7: 1 << 63}},
		{d: full},
	} {
		if up, by, ok := Norm(c.d); up != c.up || by != c.by || ok != c.ok {
			t.Errorf("Norm(%x): %x, %d, %v", c.d, up, by, ok)
		}
	}
}

func TestDivide(t *testing.T) {
	pairs(func(n, d *big.Int, want api.Errno) {
		q, r, e := Divide(fromBig(n), fromBig(d))
		if e != want {
			t.Fatalf("Divide(%x, %x): %v, not %v", n, d, e, want)
		}
		if e != api.OK {
			if q != (api.Wide{}) || r != (api.Wide{}) {
				t.Errorf("Divide(%x, %x): %x, %x beside %v", n, d, q, r, e)
			}
			return
		}
		wantQ, wantR := new(big.Int).QuoRem(n, d, new(big.Int))
		if q != fromBig(wantQ) || r != fromBig(wantR) {
			t.Errorf("Divide(%x, %x): %x, %x, not %x, %x", n, d, q, r, wantQ, wantR)
		}
	})
	for _, c := range []struct {
		n, d, q, r api.Wide
		e          api.Errno
	}{
		{api.Wide{100}, api.Wide{7}, api.Wide{14}, api.Wide{2}, api.OK},
		{api.Wide{}, api.Wide{9}, api.Wide{}, api.Wide{}, api.OK},
		{api.Wide{}, greatestD, api.Wide{}, api.Wide{}, api.OK},
		{api.Wide{6}, api.Wide{7}, api.Wide{}, api.Wide{6}, api.OK},
		{api.Wide{7}, api.Wide{7}, api.Wide{1}, api.Wide{}, api.OK},
		{api.Wide{8}, api.Wide{7}, api.Wide{1}, api.Wide{1}, api.OK},
		{api.Wide{13}, api.Wide{7}, api.Wide{1}, api.Wide{6}, api.OK},
		{api.Wide{1}, api.Wide{1}, api.Wide{1}, api.Wide{}, api.OK},
		{api.Wide{ones64, ones64}, api.Wide{1}, api.Wide{ones64, ones64}, api.Wide{}, api.OK},
		{api.Wide{5, ones64, 1 << 62}, api.Wide{1 << 63}, api.Wide{ones64 - 1, 1<<63 + 1}, api.Wide{5}, api.OK},
		{greatestN, greatestD, api.Wide{ones64, ones64}, api.Wide{ones64 - 1, ones64 >> 8}, api.OK},
		{n: full, e: api.ErrZero},
		{e: api.ErrZero},
		{n: api.Wide{2: 1}, d: api.Wide{1}, e: api.ErrRange},
		{n: api.Wide{2: ones64, 3: ones64 >> 8}, d: greatestD, e: api.ErrRange},
		{d: api.Wide{1: 1 << 56}, e: api.ErrRange},
		{n: full, d: full, e: api.ErrRange},
	} {
		if q, r, e := Divide(c.n, c.d); q != c.q || r != c.r || e != c.e {
			t.Errorf("Divide(%x, %x): %x, %x, %v", c.n, c.d, q, r, e)
		}
	}
}

func TestDigits(t *testing.T) {
	above, just := 0, 0
	pairs(func(n, d *big.Int, want api.Errno) {
		l, e := Digits(fromBig(n), fromBig(d))
		if e != want || e != api.OK && len(l) != 0 {
			t.Fatalf("Digits(%x, %x): %v beside %v, not %v", n, d, l, e, want)
		}
		if e != api.OK {
			return
		}
		if digits, _ := stepsBig(n, d); len(l) != 65 || !slices.Equal(l, digits) {
			t.Fatalf("Digits(%x, %x): %v, not %v", n, d, l, digits)
		}
		switch over := new(big.Int).Sub(number(l), new(big.Int).Quo(n, d)); over.Int64() {
		case 0:
			just++
		case 1:
			above++
		default:
			t.Errorf("Digits(%x, %x): %x above the quotient", n, d, over)
		}
	})
	// Both ends come of these numbers, so that the tests above hold them both.
	if just == 0 || above == 0 {
		t.Errorf("the digits' number is the quotient %d times, and one more %d times", just, above)
	}
}

func TestDigitsWritten(t *testing.T) {
	zeros := make([]int, 65)
	for _, c := range []struct {
		n, d api.Wide
		last []int // digits behind zeros
	}{
		// The row is 14, its bounds 20, 5, -9, -23, and 7 is 14 sixteenths. 100 by 16: 12, so 1, and -12 is left; by 4: -6, so 0; by 1: -24, so -2, and 2 is left.
		{api.Wide{100}, api.Wide{7}, []int{1, 0, -2}},
		{api.Wide{}, api.Wide{7}, nil},
		{api.Wide{1}, api.Wide{1}, []int{1}},
		// The row is 8, its bounds 12, 3, -5, -13, and 1 is 8 sixteenths. 3 by 4: 6, so 1, and -1 is left: -8, so -1.
		{api.Wide{3}, api.Wide{1}, []int{1, -1}},
		// 2 by 4: 4, so 1, and -2 is left: -16, so -2. 22 by 16: 11, so 1, and 6 is left; that by 4: 12, so 2, and -2 is left.
		{api.Wide{2}, api.Wide{1}, []int{1, -2}},
		{api.Wide{4}, api.Wide{1}, []int{1, 0}},
		{api.Wide{5}, api.Wide{1}, []int{1, 1}},
		{api.Wide{22}, api.Wide{1}, []int{1, 2, -2}},
	} {
		l, e := Digits(c.n, c.d)
		if want := slices.Concat(zeros[len(c.last):], c.last); e != api.OK || !slices.Equal(l, want) {
			t.Errorf("Digits(%x, %x): %v, %v, not %v", c.n, c.d, l, e, want)
		}
	}
	// The quotient 2^128 - 1: the first digit is worth 4^64, the last one 1.
	l, e := Digits(api.Wide{ones64, ones64}, api.Wide{1})
	if e != api.OK || l[0] != 1 || l[64] != -1 || slices.ContainsFunc(l[1:64], func(k int) bool { return k != 0 }) {
		t.Errorf("Digits of 2^128 - 1: %v, %v", l, e)
	}
	// Whoever changes one answer changes no other one.
	l[0] = 5
	if again, _ := Digits(api.Wide{ones64, ones64}, api.Wide{1}); again[0] != 1 {
		t.Errorf("an answer is shared: %v", again)
	}
}

func TestLeft(t *testing.T) {
	pairs(func(n, d *big.Int, want api.Errno) {
		var all []*big.Int
		if want == api.OK {
			_, all = stepsBig(n, d)
		}
		for _, steps := range []int{math.MinInt, -1, 0, 1, 2, 33, 64, 65, 66, 1 << 32, math.MaxInt} {
			left, below, e := Left(fromBig(n), fromBig(d), steps)
			wantE, wantLeft := want, new(big.Int)
			switch {
			case steps < 0 || steps > 65:
				wantE = api.ErrRange
			case want == api.OK:
				wantLeft = all[steps]
			}
			if e != wantE || left != fromBig(new(big.Int).Abs(wantLeft)) || below != (wantLeft.Sign() < 0) {
				t.Fatalf("Left(%x, %x, %d): %x, %v, %v, not %x, %v", n, d, steps, left, below, e, wantLeft, wantE)
			}
		}
	})
}

func TestLeftWritten(t *testing.T) {
	for _, c := range []struct {
		n, d  api.Wide
		steps int
		left  api.Wide
		below bool
		e     api.Errno
	}{
		{api.Wide{100}, api.Wide{7}, 0, api.Wide{1: 1 << 63, 2: 12}, false, api.OK},
		{api.Wide{3}, api.Wide{1}, 0, api.Wide{1: 1 << 63, 2: 1}, false, api.OK},
		{api.Wide{3}, api.Wide{1}, 63, api.Wide{1: 1 << 63, 2: 1}, false, api.OK},
		// Above, below, and just 0.
		{api.Wide{3}, api.Wide{1}, 64, api.Wide{1: 1 << 63}, true, api.OK},
		{api.Wide{3}, api.Wide{1}, 65, api.Wide{}, false, api.OK},
		{api.Wide{ones64, ones64}, api.Wide{1}, 1, api.Wide{1: 1 << 63}, true, api.OK},
		{api.Wide{ones64, ones64}, api.Wide{1}, 64, api.Wide{1: 1 << 63}, true, api.OK},
		{api.Wide{ones64, ones64}, api.Wide{1}, 65, api.Wide{}, false, api.OK},
		{greatestN, greatestD, 65, api.Wide{0: 1 << 8}, true, api.OK},
		{api.Wide{}, greatestD, 65, api.Wide{}, false, api.OK},
		// Which error is told first.
		{full, api.Wide{}, 66, api.Wide{}, false, api.ErrRange},
		{full, api.Wide{}, -1, api.Wide{}, false, api.ErrRange},
		{full, api.Wide{}, 65, api.Wide{}, false, api.ErrZero},
		{full, api.Wide{}, 0, api.Wide{}, false, api.ErrZero},
		{api.Wide{2: 1}, api.Wide{1}, 0, api.Wide{}, false, api.ErrRange},
		{api.Wide{}, api.Wide{1: 1 << 56}, 0, api.Wide{}, false, api.ErrRange},
	} {
		if left, below, e := Left(c.n, c.d, c.steps); left != c.left || below != c.below || e != c.e {
			t.Errorf("Left(%x, %x, %d): %x, %v, %v", c.n, c.d, c.steps, left, below, e)
		}
	}
}

// TestTogether holds what follows (P15.3), behind each step, without a division by others.
func TestTogether(t *testing.T) {
	for _, d := range divisors() {
		for i, n := range dividends(d) {
			digits, e := Digits(fromBig(n), fromBig(d))
			if e != api.OK || i%3 != 0 {
				continue
			}
			up := new(big.Int).Lsh(d, uint(upwards(d)))
			far := new(big.Int).Lsh(n, uint(upwards(d)))
			for step, k := range digits {
				if k < -2 || k > 2 {
					t.Fatalf("Digits(%x, %x): %v", n, d, digits)
				}
				worth := new(big.Int).Lsh(up, uint(128-2*step))
				far.Sub(far, product(worth, int64(k)))
				left, below, _ := Left(fromBig(n), fromBig(d), step+1)
				if left != fromBig(new(big.Int).Abs(far)) || below != (far.Sign() < 0) {
					t.Fatalf("Left(%x, %x, %d): %x, %v, not %x", n, d, step+1, left, below, far)
				}
				if product(toBig(left), 3).Cmp(product(worth, 2)) > 0 {
					t.Fatalf("Left(%x, %x, %d): %x is beyond two thirds of %x", n, d, step+1, left, worth)
				}
			}
			q, r, _ := Divide(fromBig(n), fromBig(d))
			back := new(big.Int).Mul(toBig(q), d)
			if back.Add(back, toBig(r)).Cmp(n) != 0 || toBig(r).Cmp(d) >= 0 {
				t.Errorf("Divide(%x, %x): %x times the divisor, and %x", n, d, q, r)
			}
		}
	}
}

// TestAgainst holds division against what wide tells of shifted numbers: powers of 2 divide as shifts do.
func TestAgainst(t *testing.T) {
	for n := range 120 {
		a := wide.Mask(127)
		want, rest := wide.Shr(a, n)
		if q, r, e := Divide(a, wide.Power(n)); q != want || (r != api.Wide{}) != rest || e != api.OK {
			t.Errorf("by 2^%d: %x, %x, %v", n, q, r, e)
		}
	}
}
