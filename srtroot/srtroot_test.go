package srtroot

import (
	"math"
	"math/big"
	"slices"
	"testing"

	"radicand/api"
)

const ones64 = math.MaxUint64

// full is 2^512 - 1.
var full = api.Wide{ones64, ones64, ones64, ones64, ones64, ones64, ones64, ones64}

// greatest is 2^256 - 1.
var greatest = api.Wide{ones64, ones64, ones64, ones64}

// strangers have no root here: the least of them, the greatest, and such as would have one if their upper limbs were lost.
var strangers = []api.Wide{{4: 1}, {0: 1, 4: 1}, {0: 9, 4: 1}, {0: 9, 5: 1}, {0: 16, 7: 1 << 63}, {7: 1}, {4: ones64}, full}

func toBig(a api.Wide) *big.Int {
	z := new(big.Int)
	for i := len(a) - 1; i >= 0; i-- {
		z.Lsh(z, 64).Or(z, new(big.Int).SetUint64(a[i]))
	}
	return z
}

func fromBig(z *big.Int) api.Wide {
	var w api.Wide
	z = new(big.Int).Set(z)
	for i := range w {
		w[i] = new(big.Int).And(z, new(big.Int).SetUint64(ones64)).Uint64()
		z.Rsh(z, 64)
	}
	return w
}

func power(n int) *big.Int {
	return new(big.Int).Lsh(big.NewInt(1), uint(n))
}

func plus(z *big.Int, n int64) *big.Int {
	return new(big.Int).Add(z, big.NewInt(n))
}

func product(z *big.Int, n int64) *big.Int {
	return new(big.Int).Mul(z, big.NewInt(n))
}

func square(z *big.Int) *big.Int {
	return new(big.Int).Mul(z, z)
}

// mixed are numbers of many lengths up to a greatest one.
func mixed(longest int) []*big.Int {
	var l []*big.Int
	mix := uint64(0x0fedcba987654321)
	for n := 1; n <= longest; n += 3 {
		z := new(big.Int)
		for range 4 {
			mix = mix*6364136223846793005 + 1442695040888963407
			z.Lsh(z, 64).Or(z, new(big.Int).SetUint64(mix^mix>>29))
		}
		l = append(l, z.And(z, plus(power(n), -1)).SetBit(z, n-1, 1))
	}
	return l
}

// near are a number and those beside it.
func near(z *big.Int) []*big.Int {
	return []*big.Int{plus(z, -1), z, plus(z, 1)}
}

// numbers are those that have a root here: small ones, those near to squares and to powers of 2, and others.
func numbers() []*big.Int {
	var l []*big.Int
	for n := range int64(130) {
		l = append(l, big.NewInt(n))
	}
	roots := append(mixed(128), plus(power(128), -1), plus(power(128), -2), power(127), plus(power(127), 1), power(64), plus(power(64), -1))
	// Roots whose first 64ths are just those that a step asks for.
	for s := int64(32); s <= 64; s++ {
		roots = append(roots, product(power(122), s), plus(product(power(122), s), -1))
	}
	for _, s := range roots {
		l = append(l, near(square(s))...)
		l = append(l, new(big.Int).Add(square(s), product(s, 2)))
	}
	l = append(l, mixed(256)...)
	for n := 0; n <= 256; n += 1 + n/251 {
		if n < 6 || n%7 == 0 || n > 250 {
			l = append(l, near(power(n))...)
		}
	}
	return slices.DeleteFunc(l, func(z *big.Int) bool { return z.Sign() < 0 || z.BitLen() > 256 })
}

// upwards is how much a number is shifted up: as often by two digits as it stays below 2^256.
func upwards(n *big.Int) int {
	by := 0
	for n.BitLen()+by+2 <= 256 {
		by += 2
	}
	return by
}

// boundBig is the bound of a digit by the words of chapter 14, of a step and a root so far in 64ths.
func boundBig(j int, s *big.Int, k int64) *big.Int {
	odd := 2*k - 1
	more := new(big.Int).Lsh(big.NewInt(4*odd*odd), 200)
	return new(big.Int).Add(product(s, odd), more.Rsh(more, uint(200+2*j)))
}

// stepsBig are the digits, each root so far, and all that is left, by the words of the chapter.
func stepsBig(n *big.Int) (digits []int, roots, lefts []*big.Int) {
	up := new(big.Int).Lsh(n, uint(upwards(n)))
	p := power(128)
	left := new(big.Int).Sub(up, square(p))
	roots, lefts = append(roots, p), append(lefts, left)
	for j := range 64 {
		s, y := new(big.Int).Rsh(p, 122), new(big.Int).Rsh(left, uint(248-2*j))
		k := int64(2)
		for k > -2 && boundBig(j, s, k).Cmp(y) > 0 {
			k--
		}
		w := power(2 * (63 - j))
		// What is left is N without the square of the root so far, reckoned anew.
		p = new(big.Int).Add(p, product(w, k))
		left = new(big.Int).Sub(up, square(p))
		digits, roots, lefts = append(digits, int(k)), append(roots, p), append(lefts, left)
	}
	return digits, roots, lefts
}

func TestNorm(t *testing.T) {
	for _, n := range numbers() {
		up, by, ok := Norm(fromBig(n))
		if n.Sign() == 0 {
			continue
		}
		if !ok || by != upwards(n) || toBig(up).Cmp(new(big.Int).Lsh(n, uint(by))) != 0 || by%2 != 0 || toBig(up).BitLen() < 255 || toBig(up).BitLen() > 256 {
			t.Errorf("Norm(%x): %x, %d, %v", n, up, by, ok)
		}
	}
	// Written out, not reckoned.
	for _, c := range []struct {
		n, up api.Wide
		by    int
		ok    bool
	}{
		{},
		{api.Wide{1}, api.Wide{3: 1 << 62}, 254, true},
		{api.Wide{2}, api.Wide{3: 1 << 63}, 254, true},
		{api.Wide{3}, api.Wide{3: 3 << 62}, 254, true},
		{api.Wide{4}, api.Wide{3: 1 << 62}, 252, true},
		{api.Wide{99}, api.Wide{3: 99 << 56}, 248, true},
		{api.Wide{3: 1 << 61}, api.Wide{3: 1 << 63}, 2, true},
		{api.Wide{3: 1 << 62}, api.Wide{3: 1 << 62}, 0, true},
		{api.Wide{3: 1 << 63}, api.Wide{3: 1 << 63}, 0, true},
		{greatest, greatest, 0, true},
	} {
		if up, by, ok := Norm(c.n); up != c.up || by != c.by || ok != c.ok {
			t.Errorf("Norm(%x): %x, %d, %v", c.n, up, by, ok)
		}
	}
	for _, n := range strangers {
		if up, by, ok := Norm(n); up != (api.Wide{}) || by != 0 || ok {
			t.Errorf("Norm(%x): %x, %d, %v", n, up, by, ok)
		}
	}
}

func TestRoot(t *testing.T) {
	for _, n := range numbers() {
		s, r, e := Root(fromBig(n))
		want := new(big.Int).Sqrt(n)
		rest := new(big.Int).Sub(n, square(want))
		if e != api.OK || s != fromBig(want) || r != fromBig(rest) {
			t.Errorf("Root(%x): %x, %x, %v, not %x, %x", n, s, r, e, want, rest)
		}
	}
	for _, c := range []struct{ n, s, r api.Wide }{
		{},
		{api.Wide{1}, api.Wide{1}, api.Wide{}},
		{api.Wide{2}, api.Wide{1}, api.Wide{1}},
		{api.Wide{3}, api.Wide{1}, api.Wide{2}},
		{api.Wide{4}, api.Wide{2}, api.Wide{}},
		{api.Wide{99}, api.Wide{9}, api.Wide{18}},
		{api.Wide{100}, api.Wide{10}, api.Wide{}},
		{api.Wide{3: 1 << 62}, api.Wide{1: 1 << 63}, api.Wide{}},
		{api.Wide{ones64, ones64, ones64, 1<<62 - 1}, api.Wide{ones64, 1<<63 - 1}, api.Wide{ones64 - 1, ones64}},
		{api.Wide{1, 0, ones64 - 1, ones64}, api.Wide{ones64, ones64}, api.Wide{}},
		{api.Wide{0, 0, ones64 - 1, ones64}, api.Wide{ones64 - 1, ones64}, api.Wide{ones64 - 3, ones64, 1}},
		{greatest, api.Wide{ones64, ones64}, api.Wide{ones64 - 1, ones64, 1}},
	} {
		if s, r, e := Root(c.n); s != c.s || r != c.r || e != api.OK {
			t.Errorf("Root(%x): %x, %x, %v", c.n, s, r, e)
		}
	}
	for _, n := range strangers {
		if s, r, e := Root(n); s != (api.Wide{}) || r != (api.Wide{}) || e != api.ErrRange {
			t.Errorf("Root(%x): %x, %x, %v", n, s, r, e)
		}
	}
}

func TestDigits(t *testing.T) {
	for _, n := range numbers() {
		l, e := Digits(fromBig(n))
		if n.Sign() == 0 {
			if len(l) != 0 || e != api.OK {
				t.Errorf("Digits(0): %v, %v", l, e)
			}
			continue
		}
		if want, _, _ := stepsBig(n); e != api.OK || len(l) != 64 || !slices.Equal(l, want) {
			t.Fatalf("Digits(%x): %v, %v, not %v", n, l, e, want)
		}
	}
	for _, n := range strangers {
		if l, e := Digits(n); len(l) != 0 || e != api.ErrRange {
			t.Errorf("Digits(%x): %v, %v", n, l, e)
		}
	}
}

func TestDigitsWritten(t *testing.T) {
	// The root of 2^254 is 2^127, that is 2^128 and -2 times 2^126; that of 2^256 - 1 is 2^128 by all its digits.
	for _, c := range []struct {
		n     api.Wide
		first []int // digits ahead of zeros
	}{
		{api.Wide{1}, []int{-2}},
		{api.Wide{3: 1 << 62}, []int{-2}},
		// 9 / 16 is a square: 2^128 less a quarter.
		{api.Wide{9}, []int{-1}},
		{greatest, nil},
	} {
		want := append(slices.Clone(c.first), make([]int, 64-len(c.first))...)
		if l, e := Digits(c.n); e != api.OK || !slices.Equal(l, want) {
			t.Errorf("Digits(%x): %v, %v, not %v", c.n, l, e, want)
		}
	}
	l, e := Digits(api.Wide{99})
	if e != api.OK || len(l) != 64 {
		t.Errorf("the example: %v, %v", l, e)
	}
	// Whoever changes one answer changes no other one.
	first := l[0]
	l[0] = 5
	if again, _ := Digits(api.Wide{99}); again[0] != first {
		t.Errorf("an answer is shared: %v", again)
	}
}

func TestFar(t *testing.T) {
	for _, n := range numbers() {
		_, roots, _ := stepsBig(n)
		for _, steps := range []int{math.MinInt, -1, 0, 1, 2, 3, 4, 32, 63, 64, 65, 1 << 32, math.MaxInt} {
			p, e := Far(fromBig(n), steps)
			want, wantE := new(big.Int), api.ErrRange
			if steps >= 0 && steps <= 64 {
				wantE = api.OK
				if n.Sign() != 0 {
					want = roots[steps]
				}
			}
			if p != fromBig(want) || e != wantE {
				t.Fatalf("Far(%x, %d): %x, %v, not %x, %v", n, steps, p, e, want, wantE)
			}
		}
	}
	for _, c := range []struct {
		n     api.Wide
		steps int
		p     api.Wide
	}{
		{api.Wide{}, 0, api.Wide{}},
		{api.Wide{}, 64, api.Wide{}},
		{api.Wide{1}, 0, api.Wide{2: 1}},
		{api.Wide{1}, 1, api.Wide{1: 1 << 63}},
		{api.Wide{1}, 64, api.Wide{1: 1 << 63}},
		{api.Wide{9}, 1, api.Wide{1: 3 << 62}},
		{api.Wide{99}, 0, api.Wide{2: 1}},
		{greatest, 1, api.Wide{2: 1}},
		// One more than the root: it is put right in the end alone.
		{greatest, 63, api.Wide{2: 1}},
		{greatest, 64, api.Wide{2: 1}},
	} {
		if p, e := Far(c.n, c.steps); p != c.p || e != api.OK {
			t.Errorf("Far(%x, %d): %x, %v", c.n, c.steps, p, e)
		}
	}
	for _, n := range strangers {
		for _, steps := range []int{math.MinInt, -1, 0, 1, 64, 65, math.MaxInt} {
			if p, e := Far(n, steps); p != (api.Wide{}) || e != api.ErrRange {
				t.Errorf("Far(%x, %d): %x, %v", n, steps, p, e)
			}
		}
	}
}

// TestTogether holds what follows (P16.3), behind each step, by squares alone.
func TestTogether(t *testing.T) {
	above, just := 0, 0
	for _, n := range numbers() {
		digits, e := Digits(fromBig(n))
		if e != api.OK || n.Sign() == 0 {
			continue
		}
		up := new(big.Int).Lsh(n, uint(upwards(n)))
		for j := range 65 {
			if j > 0 && (digits[j-1] < -2 || digits[j-1] > 2) {
				t.Fatalf("Digits(%x): %v", n, digits)
			}
			p, _ := Far(fromBig(n), j)
			// Three times as much, since two thirds are no whole number.
			less := new(big.Int).Sub(product(toBig(p), 3), power(2*(64-j)+1))
			more := new(big.Int).Add(product(toBig(p), 3), power(2*(64-j)+1))
			if less.Sign() > 0 && square(less).Cmp(product(up, 9)) > 0 || square(more).Cmp(product(up, 9)) < 0 {
				t.Fatalf("Far(%x, %d): %x is too far from the root", n, j, p)
			}
		}
		end, _ := Far(fromBig(n), 64)
		switch over := new(big.Int).Sub(toBig(end), new(big.Int).Sqrt(up)); over.Int64() {
		case 0:
			just++
		case 1:
			above++
		default:
			t.Errorf("Far(%x, 64): %x above the root", n, over)
		}
		s, r, _ := Root(fromBig(n))
		if back := square(toBig(s)); back.Add(back, toBig(r)).Cmp(n) != 0 || toBig(r).Cmp(product(toBig(s), 2)) > 0 {
			t.Errorf("Root(%x): %x, %x", n, s, r)
		}
	}
	// Both ends come of these numbers, so that the tests above hold them both.
	if just == 0 || above == 0 {
		t.Errorf("the last root so far is the root %d times, and one more %d times", just, above)
	}
}
