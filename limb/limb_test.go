package limb

import (
	"math"
	"math/big"
	"slices"
	"testing"
)

const top = math.MaxUint64

// edges are limbs at which carries, borrows and signs turn.
var edges = []uint64{0, 1, 2, 3, 7, 1<<32 - 1, 1 << 32, 1<<63 - 1, 1 << 63, 1<<63 + 1, top - 1, top, 0x0123456789abcdef}

// carries are what may be handed in as one: each but 0 counts as 1.
var carries = []uint64{0, 1, 2, 7, 1 << 32, 1 << 63, top}

// numbers are lists of all kinds: none, noughts, noughts at the end, within and in front, many.
func numbers() [][]uint64 {
	long := make([]uint64, 1100)
	for i := range long {
		long[i] = 0x9e3779b97f4a7c15 * uint64(i+1)
	}
	return [][]uint64{
		nil, {}, {0}, {0, 0, 0}, {1}, {3}, {5, 6}, {9, 0}, {9, 0, 0}, {0, 1}, {0, 2}, {top}, {top, top}, {top, top, top, 0},
		{1 << 63}, {0, 1 << 63}, {0, 0, 1}, {1, 0, 1, 0}, {top, 0, top}, {0x0123456789abcdef, 0xfedcba9876543210, 1},
		{1, 2, 3, 4, 5, 6, 7, 8, 9, 10}, long, append(slices.Clone(long), 0, 0),
	}
}

func toBig(l []uint64) *big.Int {
	z := new(big.Int)
	for i := len(l) - 1; i >= 0; i-- {
		z.Lsh(z, 64).Or(z, new(big.Int).SetUint64(l[i]))
	}
	return z
}

func fromBig(z *big.Int) []uint64 {
	var l []uint64
	z = new(big.Int).Set(z)
	for z.Sign() > 0 {
		l = append(l, new(big.Int).And(z, new(big.Int).SetUint64(top)).Uint64())
		z.Rsh(z, 64)
	}
	return l
}

// divide is floored division of z by 2^64: what lies beyond a limb, and the limb.
func divide(z *big.Int) (*big.Int, uint64) {
	q, r := new(big.Int).DivMod(z, new(big.Int).Lsh(big.NewInt(1), 64), new(big.Int))
	return q, r.Uint64()
}

func carried(c uint64) *big.Int {
	if c == 0 {
		return big.NewInt(0)
	}
	return big.NewInt(1)
}

func TestAddAndSub(t *testing.T) {
	for _, a := range edges {
		for _, b := range edges {
			for _, c := range carries {
				x, y := new(big.Int).SetUint64(a), new(big.Int).SetUint64(b)
				up, low := divide(new(big.Int).Add(new(big.Int).Add(x, y), carried(c)))
				if s, over := Add(a, b, c); s != low || over != up.Uint64() {
					t.Errorf("Add(%x, %x, %x): %x, %x", a, b, c, s, over)
				}
				up, low = divide(new(big.Int).Sub(new(big.Int).Sub(x, y), carried(c)))
				if d, under := Sub(a, b, c); d != low || under != up.Neg(up).Uint64() {
					t.Errorf("Sub(%x, %x, %x): %x, %x", a, b, c, d, under)
				}
			}
		}
	}
}

func TestMul(t *testing.T) {
	for _, a := range edges {
		for _, b := range edges {
			up, low := divide(new(big.Int).Mul(new(big.Int).SetUint64(a), new(big.Int).SetUint64(b)))
			if h, l := Mul(a, b); h != up.Uint64() || l != low {
				t.Errorf("Mul(%x, %x): %x, %x", a, b, h, l)
			}
		}
	}
}

func TestLen(t *testing.T) {
	if Len() != 0 || Len(0) != 0 || Len(0, 0) != 0 || Len(1) != 1 || Len(top) != 64 || Len(5, 0) != 3 || Len(0, 1) != 65 {
		t.Error("Len of limbs that are handed in one by one")
	}
	for _, l := range numbers() {
		if Len(l...) != toBig(l).BitLen() {
			t.Errorf("Len(%x): %d", l, Len(l...))
		}
	}
}

func TestSumAndLess(t *testing.T) {
	for _, a := range numbers() {
		for _, b := range numbers() {
			x, y := toBig(a), toBig(b)
			if got, want := Sum(a, b), fromBig(new(big.Int).Add(x, y)); !slices.Equal(got, want) {
				t.Errorf("Sum(%x, %x): %x", a, b, got)
			}
			if Less(a, b) != (x.Cmp(y) < 0) {
				t.Errorf("Less(%x, %x): %v", a, b, Less(a, b))
			}
		}
	}
}

func TestShift(t *testing.T) {
	places := []int{0, 1, 5, 63, 64, 65, 127, 128, 129, 511, 512, 513, 640, 1<<16 - 1, 1 << 16}
	for _, l := range numbers() {
		x := toBig(l)
		for _, n := range places {
			if got, want := Shift(l, n), fromBig(new(big.Int).Lsh(x, uint(n))); !slices.Equal(got, want) {
				t.Errorf("Shift(%x, %d): %x", l, n, got)
			}
			if got, want := Shift(l, -n), fromBig(new(big.Int).Rsh(x, uint(n))); !slices.Equal(got, want) {
				t.Errorf("Shift(%x, %d): %x", l, -n, got)
			}
		}
		for _, n := range []int{1<<16 + 1, -1<<16 - 1, 1 << 17, -1 << 17, 1 << 40, -1 << 40, math.MaxInt, math.MinInt} {
			if got := Shift(l, n); len(got) != 0 {
				t.Errorf("Shift(%x, %d): %x", l, n, got)
			}
		}
	}
}

func TestBit(t *testing.T) {
	for _, l := range numbers() {
		x := toBig(l)
		for n := range 64*len(l) + 130 {
			if Bit(l, n) != (x.Bit(n) == 1) {
				t.Errorf("Bit(%x, %d): %v", l, n, Bit(l, n))
			}
		}
		for _, n := range []int{-1, -63, -64, -65, math.MinInt, math.MaxInt, 1 << 40} {
			if Bit(l, n) {
				t.Errorf("Bit(%x, %d)", l, n)
			}
		}
	}
}

func TestExamples(t *testing.T) {
	if s, c := Add(top, 1, 0); s != 0 || c != 1 {
		t.Error("Add(2^64 - 1, 1, 0)", s, c)
	}
	if l := Shift([]uint64{3}, 63); !slices.Equal(l, []uint64{1 << 63, 1}) {
		t.Error("Shift of 3 by 63", l)
	}
}

// lent is a list with spare room behind it, all of it marked.
func lent() []uint64 {
	return []uint64{top, 6, 0, 11, 12, 13, 14, 15}
}

func TestWhatIsHandedInStays(t *testing.T) {
	a, b := lent(), lent()
	Len(a[:3]...)
	Less(a[:3], b[:3])
	Bit(a[:3], 70)
	answers := [][]uint64{Sum(a[:3], b[:3]), Sum(a[:3], nil), Sum(nil, b[:3])}
	for _, n := range []int{0, 1, -1, 64, -64, 130} {
		answers = append(answers, Shift(a[:3], n))
	}
	kept := make([][]uint64, len(answers))
	for i, l := range answers {
		kept[i] = slices.Clone(l)
	}
	// Nothing may show through: neither in what was lent, nor in the other answers.
	for i, l := range answers {
		if !slices.Equal(l, kept[i]) {
			t.Errorf("answer %d changed by another one", i)
		}
		for k := range l[:cap(l)] {
			l[:cap(l)][k] = 0xdead
		}
	}
	if !slices.Equal(a, lent()) || !slices.Equal(b, lent()) {
		t.Error("changed", a, b)
	}
}
