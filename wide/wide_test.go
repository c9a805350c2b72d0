package wide

import (
	"math"
	"math/big"
	"slices"
	"testing"

	"radicand/api"
)

const top = math.MaxUint64

var (
	whole = new(big.Int).Lsh(big.NewInt(1), 512)
	half  = new(big.Int).Lsh(big.NewInt(1), 511)
)

// shifts are counts at which a limb, or the wide, ends, and such as are no counts of bits.
var shifts = []int{0, 1, 2, 3, 31, 63, 64, 65, 127, 128, 129, 255, 256, 448, 500, 510, 511, 512, 513, 576, 1000, 1 << 16, 1<<16 + 1, 1 << 40, math.MaxInt,
	-1, -2, -63, -64, -65, -511, -512, -1 << 16, -1<<16 - 1, math.MinInt}

// numbers are wides of all kinds: noughts, powers of 2, masks, those that a sign makes small, and mixed ones.
func numbers() []api.Wide {
	l := []api.Wide{{}, {1}, {2}, {3}, {5}, {0, 7}, {0, 6}, {top}, {0, top}, {top, top}, {0, 0, 0, 0, 0, 0, 0, 1}, {7: 1 << 63}, {7: 1<<63 - 1},
		{0: 1, 7: 1 << 63}, {3: 1 << 63, 4: 1}}
	full := api.Wide{top, top, top, top, top, top, top, top}
	l = append(l, full, api.Wide{top, top, top, top, top, top, top, top >> 1})
	for _, n := range []uint64{2, 3, 4, 5, 8, 1 << 63} { // 0 without n
		w := full
		w[0] -= n - 1
		l = append(l, w)
	}
	mix := uint64(0x0123456789abcdef)
	for range 12 {
		var w api.Wide
		for i := range w {
			mix = mix*6364136223846793005 + 1442695040888963407
			w[i] = mix ^ mix>>29
		}
		l = append(l, w)
	}
	return l
}

func toBig(a api.Wide) *big.Int {
	z := new(big.Int)
	for i := len(a) - 1; i >= 0; i-- {
		z.Lsh(z, 64).Or(z, new(big.Int).SetUint64(a[i]))
	}
	return z
}

// fromBig is z modulo 2^512, also of z below 0.
func fromBig(z *big.Int) api.Wide {
	var w api.Wide
	z = new(big.Int).Mod(z, whole)
	for i := range w {
		w[i] = new(big.Int).And(z, new(big.Int).SetUint64(top)).Uint64()
		z.Rsh(z, 64)
	}
	return w
}

// signed is a wide, taken with a sign.
func signed(a api.Wide) *big.Int {
	z := toBig(a)
	if z.Cmp(half) >= 0 {
		z.Sub(z, whole)
	}
	return z
}

// count is what a shift is taken for; what lies far beyond the wide is the same as 2000.
func count(n int) uint {
	return uint(min(max(n, 0), 2000))
}

func TestOf(t *testing.T) {
	if Of() != (api.Wide{}) || Of(5) != (api.Wide{5}) || Of(0, 7, 0) != (api.Wide{0, 7}) {
		t.Error("Of few")
	}
	eight := api.Wide{1, 2, 3, 4, 5, 6, 7, 8}
	if Of(1, 2, 3, 4, 5, 6, 7, 8) != eight || Of(1, 2, 3, 4, 5, 6, 7, 8, 9) != eight || Of(1, 2, 3, 4, 5, 6, 7, 8, 9, top, 11) != eight {
		t.Error("Of eight and more")
	}
	lent := []uint64{1, 2, 3, 4}
	if w := Of(lent[:2]...); w != (api.Wide{1, 2}) || !slices.Equal(lent, []uint64{1, 2, 3, 4}) {
		t.Error("Of a list with spare room", w, lent)
	}
}

func TestPowerAndMask(t *testing.T) {
	for n := -70; n < 600; n++ {
		power, mask := new(big.Int), new(big.Int)
		if n >= 0 {
			power.Lsh(big.NewInt(1), uint(n))
			mask.Lsh(big.NewInt(1), uint(min(n, 512)))
			mask.Sub(mask, big.NewInt(1))
		}
		if Power(n) != fromBig(power) {
			t.Errorf("Power(%d): %x", n, Power(n))
		}
		if Mask(n) != fromBig(mask) {
			t.Errorf("Mask(%d): %x", n, Mask(n))
		}
	}
	for _, n := range []int{1 << 16, 1<<16 + 1, 1 << 40, math.MaxInt} {
		if Power(n) != (api.Wide{}) || Power(-n) != (api.Wide{}) || Mask(n) != fromBig(big.NewInt(-1)) || Mask(-n) != (api.Wide{}) {
			t.Errorf("Power, Mask of %d either way", n)
		}
	}
	if Power(math.MinInt) != (api.Wide{}) || Mask(math.MinInt) != (api.Wide{}) {
		t.Error("Power, Mask of the least int")
	}
}

func TestAddSubCmp(t *testing.T) {
	for _, a := range numbers() {
		for _, b := range numbers() {
			x, y := toBig(a), toBig(b)
			sum, diff := new(big.Int).Add(x, y), new(big.Int).Sub(x, y)
			if s, over := Add(a, b); s != fromBig(sum) || over != (sum.Cmp(whole) >= 0) {
				t.Errorf("Add(%x, %x): %x, %v", a, b, s, over)
			}
			if d, below := Sub(a, b); d != fromBig(diff) || below != (diff.Sign() < 0) {
				t.Errorf("Sub(%x, %x): %x, %v", a, b, d, below)
			}
			if Cmp(a, b) != x.Cmp(y) {
				t.Errorf("Cmp(%x, %x): %d", a, b, Cmp(a, b))
			}
		}
	}
}

func TestLenBitLowFrom(t *testing.T) {
	for _, a := range numbers() {
		x := toBig(a)
		if Len(a) != x.BitLen() {
			t.Errorf("Len(%x): %d", a, Len(a))
		}
		for n := range 700 {
			if Bit(a, n) != (x.Bit(n) == 1) {
				t.Errorf("Bit(%x, %d): %v", a, n, Bit(a, n))
			}
		}
		for _, n := range []int{-1, -64, -511, math.MinInt, 1 << 16, math.MaxInt} {
			if Bit(a, n) {
				t.Errorf("Bit(%x, %d)", a, n)
			}
		}
		w := api.Word{Hi: a[1], Lo: a[0]}
		if Low(a) != w || From(w) != (api.Wide{a[0], a[1]}) || Low(From(w)) != w {
			t.Errorf("Low, From of %x", a)
		}
	}
}

func TestShifts(t *testing.T) {
	for _, a := range numbers() {
		x, y := toBig(a), signed(a)
		for _, n := range shifts {
			if got := Shl(a, n); got != fromBig(new(big.Int).Lsh(x, count(n))) {
				t.Errorf("Shl(%x, %d): %x", a, n, got)
			}
			down := new(big.Int).Rsh(x, count(n))
			lost := new(big.Int).Lsh(down, count(n)).Cmp(x) != 0
			if got, rest := Shr(a, n); got != fromBig(down) || rest != lost {
				t.Errorf("Shr(%x, %d): %x, %v", a, n, got, rest)
			}
			// big.Int rounds a number below 0 down when it is shifted.
			if got := Sar(a, n); got != fromBig(new(big.Int).Rsh(y, count(n))) {
				t.Errorf("Sar(%x, %d): %x", a, n, got)
			}
		}
	}
}

func TestNegAndMinus(t *testing.T) {
	for _, a := range numbers() {
		if Neg(a) != fromBig(new(big.Int).Neg(toBig(a))) {
			t.Errorf("Neg(%x): %x", a, Neg(a))
		}
		if Minus(a) != (signed(a).Sign() < 0) {
			t.Errorf("Minus(%x): %v", a, Minus(a))
		}
	}
}

func TestAddedAndTakenAway(t *testing.T) {
	for _, a := range numbers() {
		for _, b := range numbers() {
			s, over := Add(a, b)
			if d, below := Sub(s, b); d != a || below != over {
				t.Errorf("%x and %x, without it: %x", a, b, d)
			}
			d, below := Sub(a, b)
			if s, over := Add(d, b); s != a || over != below {
				t.Errorf("%x without %x, and it: %x", a, b, s)
			}
		}
	}
}

func TestShiftedUpComesBack(t *testing.T) {
	for _, a := range numbers() {
		for n := range 512 - Len(a) + 1 {
			if back, rest := Shr(Shl(a, n), n); back != a || rest {
				t.Errorf("%x up by %d and down: %x, %v", a, n, back, rest)
			}
		}
		// A sign takes one digit of the room.
		small, _ := Shr(a, 100)
		for _, w := range []api.Wide{small, Neg(small)} {
			if back := Sar(Shl(w, 99), 99); back != w {
				t.Errorf("%x up by 99 and down with a sign: %x", w, back)
			}
		}
	}
}

func TestExamples(t *testing.T) {
	d, below := Sub(api.Wide{}, Of(1))
	if d != (api.Wide{top, top, top, top, top, top, top, top}) || !below {
		t.Error("Sub(0, 1)", d, below)
	}
	if Sar(d, 3) != d {
		t.Error("Sar of 2^512 - 1 by 3", Sar(d, 3))
	}
}
