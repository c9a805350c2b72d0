package root2

import (
	"math"
	"math/big"
	"slices"
	"testing"

	"radicand/api"
	"radicand/wide"
)

const ones64 = math.MaxUint64

// full is 2^512 - 1.
var full = api.Wide{ones64, ones64, ones64, ones64, ones64, ones64, ones64, ones64}

// greatest is 2^256 - 1.
var greatest = api.Wide{ones64, ones64, ones64, ones64}

// strangers have no root here: the least of them, the greatest, and such as would have one if their upper limbs were lost.
var strangers = []api.Wide{{4: 1}, {0: 1, 4: 1}, {0: 9, 4: 1}, {0: 9, 5: 1}, {0: 16, 7: 1 << 63}, {7: 1}, {4: ones64}, full}

func toBig(a api.Wide) *big.Int {
	z := new(big.Int)
	for i := len(a) - 1; i >= 0; i-- {
		z.Lsh(z, 64).Or(z, new(big.Int).SetUint64(a[i]))
	}
	return z
}

func fromBig(z *big.Int) api.Wide {
	var w api.Wide
	z = new(big.Int).Set(z)
	for i := range w {
		w[i] = new(big.Int).And(z, new(big.Int).SetUint64(ones64)).Uint64()
		z.Rsh(z, 64)
	}
	return w
}

func power(n int) *big.Int {
	return new(big.Int).Lsh(big.NewInt(1), uint(n))
}

func plus(z *big.Int, n int64) *big.Int {
	return new(big.Int).Add(z, big.NewInt(n))
}

// raised is a power of z.
func raised(z *big.Int, n int64) *big.Int {
	return new(big.Int).Exp(z, big.NewInt(n), nil)
}

// mixed are numbers of many lengths up to a greatest one.
func mixed(longest int) []*big.Int {
	var l []*big.Int
	mix := uint64(0x0123456789abcdef)
	for n := 1; n <= longest; n++ {
		z := new(big.Int)
		for range 4 {
			mix = mix*6364136223846793005 + 1442695040888963407
			z.Lsh(z, 64).Or(z, new(big.Int).SetUint64(mix^mix>>29))
		}
		l = append(l, z.And(z, plus(power(n), -1)).SetBit(z, n-1, 1))
	}
	return l
}

// near are a number and those beside it.
func near(z *big.Int) []*big.Int {
	return []*big.Int{plus(z, -1), z, plus(z, 1)}
}

// numbers are those that have a root here: small ones, those near to squares and to third powers, to squares of a root and a half, and others.
func numbers() []*big.Int {
	var l []*big.Int
	for n := range int64(300) {
		l = append(l, big.NewInt(n))
	}
	roots := append(mixed(128), plus(power(128), -1), plus(power(128), -2), power(127), plus(power(127), 1), power(64), plus(power(64), -1))
	for _, s := range roots {
		square := raised(s, 2)
		l = append(l, near(square)...)
		l = append(l, near(new(big.Int).Add(square, s))...)
		l = append(l, plus(new(big.Int).Add(square, s), 2), new(big.Int).Add(square, new(big.Int).Lsh(s, 1)))
		if s.BitLen() < 86 {
			l = append(l, near(raised(s, 3))...)
		}
	}
	l = append(l, mixed(256)...)
	for n := range 257 {
		l = append(l, near(power(n))...)
	}
	return slices.DeleteFunc(l, func(z *big.Int) bool { return z.Sign() < 0 || z.BitLen() > 256 })
}

func TestRoot(t *testing.T) {
	for _, n := range numbers() {
		s, r, e := Root(fromBig(n))
		want := new(big.Int).Sqrt(n)
		rest := new(big.Int).Sub(n, raised(want, 2))
		if e != api.OK || s != fromBig(want) || r != fromBig(rest) {
			t.Errorf("Root(%x): %x, %x, %v, not %x, %x", n, s, r, e, want, rest)
		}
	}
	for _, c := range []struct{ n, s, r api.Wide }{
		{},
		{api.Wide{1}, api.Wide{1}, api.Wide{}},
		{api.Wide{2}, api.Wide{1}, api.Wide{1}},
		{api.Wide{3}, api.Wide{1}, api.Wide{2}},
		{api.Wide{4}, api.Wide{2}, api.Wide{}},
		{api.Wide{99}, api.Wide{9}, api.Wide{18}},
		{api.Wide{3: 1 << 62}, api.Wide{1: 1 << 63}, api.Wide{}},
		{api.Wide{1, 0, ones64 - 1, ones64}, api.Wide{ones64, ones64}, api.Wide{}},
		{api.Wide{0, 0, ones64 - 1, ones64}, api.Wide{ones64 - 1, ones64}, api.Wide{ones64 - 3, ones64, 1}},
		{greatest, api.Wide{ones64, ones64}, api.Wide{ones64 - 1, ones64, 1}},
	} {
		if s, r, e := Root(c.n); s != c.s || r != c.r || e != api.OK {
			t.Errorf("Root(%x): %x, %x, %v", c.n, s, r, e)
		}
	}
	for _, n := range strangers {
		if s, r, e := Root(n); s != (api.Wide{}) || r != (api.Wide{}) || e != api.ErrRange {
			t.Errorf("Root(%x): %x, %x, %v", n, s, r, e)
		}
	}
}

// TestTogether holds what follows (P12.3), without roots by others.
func TestTogether(t *testing.T) {
	for _, n := range numbers() {
		s, r, _ := Root(fromBig(n))
		back := raised(toBig(s), 2)
		if back.Add(back, toBig(r)).Cmp(n) != 0 || toBig(r).Cmp(new(big.Int).Lsh(toBig(s), 1)) > 0 {
			t.Errorf("Root(%x): %x, %x", n, s, r)
		}
	}
	for _, s := range append(mixed(128), plus(power(128), -1), new(big.Int)) {
		if got, r, e := Root(fromBig(raised(s, 2))); got != fromBig(s) || r != (api.Wide{}) || e != api.OK {
			t.Errorf("the root of the square of %x: %x, %x, %v", s, got, r, e)
		}
	}
}

func TestDigits(t *testing.T) {
	for _, n := range numbers() {
		l, e := Digits(fromBig(n))
		if e != api.OK || len(l) != 128 {
			t.Fatalf("Digits(%x): %d of them, %v", n, len(l), e)
		}
		want := new(big.Int).Sqrt(n)
		for i, x := range l {
			if x != int(want.Bit(127-i)) {
				t.Fatalf("Digits(%x): at %d %d", n, i, x)
			}
		}
	}
	for _, n := range strangers {
		if l, e := Digits(n); len(l) != 0 || e != api.ErrRange {
			t.Errorf("Digits(%x): %v, %v", n, l, e)
		}
	}
	l, e := Digits(api.Wide{3: 1 << 62})
	if e != api.OK || l[0] != 1 || slices.Max(l[1:]) != 0 {
		t.Errorf("the highest digit is the first: %v, %v", l, e)
	}
	// Whoever changes one answer changes no other one.
	l[0] = 5
	if again, _ := Digits(api.Wide{3: 1 << 62}); again[0] != 1 {
		t.Errorf("an answer is shared: %v", again)
	}
}

func TestSquare(t *testing.T) {
	for _, n := range numbers() {
		want := raised(new(big.Int).Sqrt(n), 2).Cmp(n) == 0
		if Square(fromBig(n)) != want {
			t.Errorf("Square(%x): %v", n, !want)
		}
	}
	for n, want := range map[api.Wide]bool{{}: true, {1}: true, {2}: false, {3}: false, {4}: true, {5}: false, {8}: false, {9}: true, {1, 0, ones64 - 1, ones64}: true, {0, 0, ones64 - 1, ones64}: false, greatest: false} {
		if Square(n) != want {
			t.Errorf("Square(%x): %v", n, !want)
		}
	}
	// Squares that have no root here, among them 2^256 and (2^128 + 1)^2.
	for _, n := range append(strangers, wide.Power(258), wide.Power(510), api.Wide{0: 1, 2: 2, 4: 1}) {
		if Square(n) {
			t.Errorf("Square(%x): true", n)
		}
	}
}

// cubeBig is a third root, by halving what is between.
func cubeBig(n *big.Int) *big.Int {
	low, high := new(big.Int), power(90)
	for plus(low, 1).Cmp(high) < 0 {
		mid := new(big.Int).Add(low, high)
		mid.Rsh(mid, 1)
		if raised(mid, 3).Cmp(n) <= 0 {
			low = mid
		} else {
			high = mid
		}
	}
	return low
}

func TestCube(t *testing.T) {
	for _, n := range numbers() {
		s, r, e := Cube(fromBig(n))
		want := cubeBig(n)
		rest := new(big.Int).Sub(n, raised(want, 3))
		if e != api.OK || s != fromBig(want) || r != fromBig(rest) {
			t.Errorf("Cube(%x): %x, %x, %v, not %x, %x", n, s, r, e, want, rest)
		}
	}
	for _, c := range []struct{ n, s, r uint64 }{{0, 0, 0}, {1, 1, 0}, {2, 1, 1}, {7, 1, 6}, {8, 2, 0}, {9, 2, 1}, {26, 2, 18}, {27, 3, 0}, {99, 4, 35}} {
		if s, r, e := Cube(wide.Of(c.n)); s != wide.Of(c.s) || r != wide.Of(c.r) || e != api.OK {
			t.Errorf("Cube(%d): %x, %x, %v", c.n, s, r, e)
		}
	}
	// The greatest third root of all, held by third powers alone.
	s, r, e := Cube(greatest)
	z := toBig(s)
	back := raised(z, 3)
	if e != api.OK || z.BitLen() != 86 || back.Cmp(toBig(greatest)) > 0 || raised(plus(z, 1), 3).Cmp(toBig(greatest)) <= 0 || back.Add(back, toBig(r)).Cmp(toBig(greatest)) != 0 {
		t.Errorf("Cube(2^256 - 1): %x, %x, %v", s, r, e)
	}
	for _, n := range append(strangers, wide.Power(258), wide.Power(300)) {
		if s, r, e := Cube(n); s != (api.Wide{}) || r != (api.Wide{}) || e != api.ErrRange {
			t.Errorf("Cube(%x): %x, %x, %v", n, s, r, e)
		}
	}
}

func TestRound(t *testing.T) {
	for _, n := range numbers() {
		s, e := Round(fromBig(n))
		want := new(big.Int).Sqrt(n)
		// n is above the square of a root and a half just if four times n is above that of twice the root, and 1.
		if new(big.Int).Lsh(n, 2).Cmp(raised(plus(new(big.Int).Lsh(want, 1), 1), 2)) > 0 {
			want = plus(want, 1)
		}
		if e != api.OK || s != fromBig(want) {
			t.Errorf("Round(%x): %x, %v, not %x", n, s, e, want)
		}
	}
	// A root and a half, squared, is 0.25, 2.25, 6.25, 12.25, 90.25.
	for n, want := range map[uint64]uint64{0: 0, 1: 1, 2: 1, 3: 2, 4: 2, 5: 2, 6: 2, 7: 3, 9: 3, 12: 3, 13: 4, 90: 9, 91: 10, 99: 10, 100: 10} {
		if s, e := Round(wide.Of(n)); s != wide.Of(want) || e != api.OK {
			t.Errorf("Round(%d): %x, %v", n, s, e)
		}
	}
	if s, e := Round(greatest); s != (api.Wide{2: 1}) || e != api.OK {
		t.Errorf("Round(2^256 - 1): %x, %v", s, e)
	}
	// (2^128 - 1)^2, with its root, is 2^256 - 2^128: one above it is rounded up.
	if s, e := Round(api.Wide{2: ones64, 3: ones64}); s != (api.Wide{ones64, ones64}) || e != api.OK {
		t.Errorf("Round(2^256 - 2^128): %x, %v", s, e)
	}
	if s, e := Round(api.Wide{0: 1, 2: ones64, 3: ones64}); s != (api.Wide{2: 1}) || e != api.OK {
		t.Errorf("Round(2^256 - 2^128 + 1): %x, %v", s, e)
	}
	for _, n := range strangers {
		if s, e := Round(n); s != (api.Wide{}) || e != api.ErrRange {
			t.Errorf("Round(%x): %x, %v", n, s, e)
		}
	}
}
