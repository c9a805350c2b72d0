package radix2

import (
	"math"
	"math/big"
	"slices"
	"testing"

	"radicand/api"
	"radicand/wide"
)

const ones64 = math.MaxUint64

// full is 2^512 - 1.
var full = api.Wide{ones64, ones64, ones64, ones64, ones64, ones64, ones64, ones64}

func toBig(a api.Wide) *big.Int {
	z := new(big.Int)
	for i := len(a) - 1; i >= 0; i-- {
		z.Lsh(z, 64).Or(z, new(big.Int).SetUint64(a[i]))
	}
	return z
}

// fromBig is z modulo 2^512.
func fromBig(z *big.Int) api.Wide {
	var w api.Wide
	z = new(big.Int).And(z, toBig(full))
	for i := range w {
		w[i] = new(big.Int).And(z, new(big.Int).SetUint64(ones64)).Uint64()
		z.Rsh(z, 64)
	}
	return w
}

func power(n int) *big.Int {
	return new(big.Int).Lsh(big.NewInt(1), uint(n))
}

// ones is as many ones.
func ones(n int) *big.Int {
	return new(big.Int).Sub(power(n), big.NewInt(1))
}

func plus(z *big.Int, n int64) *big.Int {
	return new(big.Int).Add(z, big.NewInt(n))
}

// mixed are numbers of all lengths from 1 to a greatest one.
func mixed(greatest int) []*big.Int {
	var l []*big.Int
	mix := uint64(0x0123456789abcdef)
	for n := 1; n <= greatest; n += 1 + greatest/23 {
		z := new(big.Int)
		for range 8 {
			mix = mix*6364136223846793005 + 1442695040888963407
			z.Lsh(z, 64).Or(z, new(big.Int).SetUint64(mix^mix>>29))
		}
		l = append(l, z.And(z, ones(n)).SetBit(z, n-1, 1))
	}
	return l
}

// divisors are those that may be, and those that may not.
func divisors() []*big.Int {
	l := []*big.Int{new(big.Int), big.NewInt(1), big.NewInt(2), big.NewInt(3), big.NewInt(7), big.NewInt(10),
		power(63), ones(64), power(64), plus(power(64), 1), power(113), power(119), plus(ones(120), -1), ones(120),
		power(120), plus(power(120), 1), power(128), ones(192), power(384), power(511), ones(512)}
	return append(l, mixed(130)...)
}

// dividends are those on both sides of what a divisor may divide, those near to it, and others.
func dividends(d *big.Int) []*big.Int {
	bound := new(big.Int).Lsh(d, 128)
	l := []*big.Int{new(big.Int), big.NewInt(1), big.NewInt(100), power(127), power(128), ones(128), power(247), ones(248), power(248), power(256), power(511), ones(512),
		plus(bound, -1), bound, plus(bound, 1), new(big.Int).Lsh(d, 127), plus(new(big.Int).Lsh(d, 127), -1), plus(d, -1), d, plus(d, 1), new(big.Int).Lsh(d, 1), plus(new(big.Int).Lsh(d, 1), -1)}
	l = append(l, mixed(260)...)
	return slices.DeleteFunc(l, func(n *big.Int) bool { return n.Sign() < 0 || n.BitLen() > 512 })
}

// pairs hands each dividend and each divisor on, and what May has to tell of them.
func pairs(do func(n, d *big.Int, e api.Errno)) {
	for _, d := range divisors() {
		for _, n := range dividends(d) {
			e := api.OK
			switch {
			case d.Sign() == 0:
				e = api.ErrZero
			case d.Cmp(power(120)) >= 0, n.Cmp(new(big.Int).Lsh(d, 128)) >= 0:
				e = api.ErrRange
			}
			do(n, d, e)
		}
	}
}

func TestMay(t *testing.T) {
	pairs(func(n, d *big.Int, want api.Errno) {
		if e := May(fromBig(n), fromBig(d)); e != want {
			t.Errorf("May(%x, %x): %v, not %v", n, d, e, want)
		}
	})
	// Written out, not reckoned.
	for _, c := range []struct {
		n, d api.Wide
		e    api.Errno
	}{
		{api.Wide{}, api.Wide{}, api.ErrZero},
		{full, api.Wide{}, api.ErrZero},
		{api.Wide{}, api.Wide{1}, api.OK},
		{api.Wide{ones64, ones64}, api.Wide{1}, api.OK},
		{api.Wide{2: 1}, api.Wide{1}, api.ErrRange},
		{api.Wide{ones64, ones64, ones64 - 1, ones64 >> 8}, api.Wide{ones64, ones64 >> 8}, api.OK},
		{api.Wide{2: ones64, 3: ones64 >> 8}, api.Wide{ones64, ones64 >> 8}, api.ErrRange},
		{api.Wide{}, api.Wide{1: 1 << 56}, api.ErrRange},
		{api.Wide{}, full, api.ErrRange},
		{full, full, api.ErrRange},
		{api.Wide{}, api.Wide{7: 1 << 63}, api.ErrRange},
	} {
		if e := May(c.n, c.d); e != c.e {
			t.Errorf("May(%x, %x): %v, not %v", c.n, c.d, e, c.e)
		}
	}
}

func TestDivide(t *testing.T) {
	pairs(func(n, d *big.Int, want api.Errno) {
		q, r, e := Divide(fromBig(n), fromBig(d))
		if e != want {
			t.Fatalf("Divide(%x, %x): %v, not %v", n, d, e, want)
		}
		if e != api.OK {
			if q != (api.Wide{}) || r != (api.Wide{}) {
				t.Errorf("Divide(%x, %x): %x, %x beside %v", n, d, q, r, e)
			}
			return
		}
		wantQ, wantR := new(big.Int).QuoRem(n, d, new(big.Int))
		if q != fromBig(wantQ) || r != fromBig(wantR) {
			t.Errorf("Divide(%x, %x): %x, %x, not %x, %x", n, d, q, r, wantQ, wantR)
		}
	})
	if q, r, e := Divide(api.Wide{100}, api.Wide{7}); q != (api.Wide{14}) || r != (api.Wide{2}) || e != api.OK {
		t.Errorf("the example: %x, %x, %v", q, r, e)
	}
	greatest := api.Wide{ones64, ones64, ones64 - 1, ones64 >> 8}
	d := api.Wide{ones64, ones64 >> 8}
	if q, r, e := Divide(greatest, d); q != (api.Wide{ones64, ones64}) || r != (api.Wide{ones64 - 1, ones64 >> 8}) || e != api.OK {
		t.Errorf("the greatest of all: %x, %x, %v", q, r, e)
	}
}

// TestTogether holds what follows (P11.3), without a division by others.
func TestTogether(t *testing.T) {
	pairs(func(n, d *big.Int, want api.Errno) {
		q, r, e := Divide(fromBig(n), fromBig(d))
		if e != api.OK {
			return
		}
		back := new(big.Int).Mul(toBig(q), d)
		if back.Add(back, toBig(r)).Cmp(n) != 0 || toBig(r).Cmp(d) >= 0 {
			t.Errorf("Divide(%x, %x): %x times the divisor, and %x", n, d, q, r)
		}
	})
}

func TestDigits(t *testing.T) {
	pairs(func(n, d *big.Int, want api.Errno) {
		l, e := Digits(fromBig(n), fromBig(d))
		if e != want || e != api.OK && len(l) != 0 {
			t.Fatalf("Digits(%x, %x): %v beside %v, not %v", n, d, l, e, want)
		}
		if e != api.OK {
			return
		}
		if len(l) != 128 {
			t.Fatalf("Digits(%x, %x): %d of them", n, d, len(l))
		}
		q, _, _ := Divide(fromBig(n), fromBig(d))
		for i, x := range l {
			if want := int(toBig(q).Bit(127 - i)); x != want {
				t.Fatalf("Digits(%x, %x): at %d %d", n, d, i, x)
			}
		}
	})
	l, e := Digits(api.Wide{1: 1 << 63}, api.Wide{1})
	if e != api.OK || l[0] != 1 || slices.Max(l[1:]) != 0 {
		t.Errorf("the highest digit is the first: %v, %v", l, e)
	}
	// Whoever changes one answer changes no other one.
	l[0] = 5
	if again, _ := Digits(api.Wide{1: 1 << 63}, api.Wide{1}); again[0] != 1 {
		t.Errorf("an answer is shared: %v", again)
	}
}

// stepsBig are all that is left, by the words of the chapter.
func stepsBig(n, d *big.Int) []api.Wide {
	left := new(big.Int).Set(n)
	l := []api.Wide{fromBig(left)}
	for place := 127; place >= 0; place-- {
		if times := new(big.Int).Mul(d, power(place)); times.Cmp(left) <= 0 {
			left.Sub(left, times)
		}
		l = append(l, fromBig(left))
	}
	return l
}

func TestSteps(t *testing.T) {
	pairs(func(n, d *big.Int, want api.Errno) {
		var all []api.Wide
		if want == api.OK {
			all = stepsBig(n, d)
		}
		for _, most := range []int{math.MinInt, -1, 0, 1, 2, 64, 127, 128, 129, 130, 1000, math.MaxInt} {
			l, e := Steps(fromBig(n), fromBig(d), most)
			if e != want || !slices.Equal(l, all[:min(max(most, 0), len(all))]) {
				t.Fatalf("Steps(%x, %x, %d): %d of them, %v", n, d, most, len(l), e)
			}
		}
	})
	l, e := Steps(api.Wide{100}, api.Wide{7}, 129)
	if e != api.OK || len(l) != 129 || !slices.Equal(l[124:], []api.Wide{{100}, {44}, {16}, {2}, {2}}) {
		t.Errorf("Steps of the example: %x, %v", l, e)
	}
	if l, e := Steps(api.Wide{5}, api.Wide{}, 0); len(l) != 0 || e != api.ErrZero {
		t.Errorf("an error is told where none are wanted, too: %v, %v", l, e)
	}
	if l, e := Steps(api.Wide{2: 1}, api.Wide{1}, -7); len(l) != 0 || e != api.ErrRange {
		t.Errorf("an error is told where none are wanted, too: %v, %v", l, e)
	}
}

func TestFraction(t *testing.T) {
	for _, places := range []int{math.MinInt, -1, 0, 1, 2, 50, 63, 64, 99, 100, 101, 128, 1 << 32, math.MaxInt} {
		pairs(func(n, d *big.Int, _ api.Errno) {
			q, more, e := Fraction(fromBig(n), fromBig(d), places)
			want, wantQ, wantR := api.ErrRange, new(big.Int), new(big.Int)
			if places >= 0 && places <= 100 {
				m := toBig(fromBig(new(big.Int).Lsh(n, uint(places))))
				if want = May(fromBig(m), fromBig(d)); want == api.OK {
					wantQ.QuoRem(m, d, wantR)
				}
			}
			if e != want || q != fromBig(wantQ) || more != (wantR.Sign() != 0) {
				t.Errorf("Fraction(%x, %x, %d): %x, %v, %v", n, d, places, q, more, e)
			}
		})
	}
	for _, c := range []struct {
		n, d   api.Wide
		places int
		q      api.Wide
		more   bool
		e      api.Errno
	}{
		{api.Wide{1}, api.Wide{3}, 0, api.Wide{}, true, api.OK},
		{api.Wide{1}, api.Wide{3}, 1, api.Wide{}, true, api.OK},
		{api.Wide{1}, api.Wide{4}, 1, api.Wide{}, true, api.OK},
		{api.Wide{1}, api.Wide{4}, 2, api.Wide{1}, false, api.OK},
		{api.Wide{1}, api.Wide{1}, 100, api.Wide{1: 1 << 36}, false, api.OK},
		{api.Wide{1}, api.Wide{1}, 101, api.Wide{}, false, api.ErrRange},
		{api.Wide{1}, api.Wide{1}, -1, api.Wide{}, false, api.ErrRange},
		{api.Wide{1 << 28}, api.Wide{1}, 100, api.Wide{}, false, api.ErrRange},
		// What is above 2^512 is lost, and what stays is divided.
		{api.Wide{3, 7: 1 << 63}, api.Wide{1}, 1, api.Wide{6}, false, api.OK},
		{api.Wide{3, 7: 1 << 63}, api.Wide{5}, 1, api.Wide{1}, true, api.OK},
		{api.Wide{7: 1 << 63}, api.Wide{5}, 1, api.Wide{}, false, api.OK},
		{api.Wide{1, 6: 1 << 28}, api.Wide{1 << 36}, 100, api.Wide{1: 1}, false, api.OK},
		{api.Wide{1, 6: 1 << 28}, api.Wide{3 << 36}, 100, api.Wide{ones64 / 3}, true, api.OK},
		// Which error is told first.
		{full, api.Wide{}, 101, api.Wide{}, false, api.ErrRange},
		{full, api.Wide{}, 100, api.Wide{}, false, api.ErrZero},
		{full, full, 0, api.Wide{}, false, api.ErrRange},
	} {
		if q, more, e := Fraction(c.n, c.d, c.places); q != c.q || more != c.more || e != c.e {
			t.Errorf("Fraction(%x, %x, %d): %x, %v, %v", c.n, c.d, c.places, q, more, e)
		}
	}
}

// TestAgainst holds division against what wide tells of shifted numbers: powers of 2 divide as shifts do.
func TestAgainst(t *testing.T) {
	for n := range 120 {
		a := wide.Mask(127)
		want, rest := wide.Shr(a, n)
		if q, r, e := Divide(a, wide.Power(n)); q != want || (r != api.Wide{}) != rest || e != api.OK {
			t.Errorf("by 2^%d: %x, %x, %v", n, q, r, e)
		}
	}
}
