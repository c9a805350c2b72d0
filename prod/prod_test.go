package prod

import (
	"math"
	"math/big"
	"slices"
	"testing"

	"radicand/api"
	"radicand/wide"
)

const top = math.MaxUint64

var whole = new(big.Int).Lsh(big.NewInt(1), 512)

// numbers are wides of all kinds: noughts, powers of 2, masks, those with limbs of 0 between, and mixed ones.
func numbers() []api.Wide {
	full := wide.Mask(512)
	l := []api.Wide{{}, {1}, {2}, {3}, {10}, {0, 7}, {5, 7}, {top}, {0, top}, {top, top}, {7: 1}, {7: top}, {7: 1 << 63}, {0: 1, 7: 1 << 63},
		{0: top, 7: top}, {1: top, 3: top, 5: 1}, {top - 1, top, top, top, top, top, top, top}, full}
	for _, n := range []int{63, 64, 65, 255, 256, 257, 300, 400, 511} {
		l = append(l, wide.Power(n), wide.Mask(n))
	}
	mix := uint64(0x0123456789abcdef)
	for n := range 16 {
		var w api.Wide
		for i := range w {
			mix = mix*6364136223846793005 + 1442695040888963407
			w[i] = mix ^ mix>>29
		}
		// Some of each length: so products fall on both sides of 2^512.
		w, _ = wide.Shr(w, 32*n)
		l = append(l, w)
	}
	return l
}

func toBig(a api.Wide) *big.Int {
	z := new(big.Int)
	for i := len(a) - 1; i >= 0; i-- {
		z.Lsh(z, 64).Or(z, new(big.Int).SetUint64(a[i]))
	}
	return z
}

// fromBig is z modulo 2^512.
func fromBig(z *big.Int) api.Wide {
	var w api.Wide
	z = new(big.Int).Mod(z, whole)
	for i := range w {
		w[i] = new(big.Int).And(z, new(big.Int).SetUint64(top)).Uint64()
		z.Rsh(z, 64)
	}
	return w
}

// partBig is a part of a product, by its words: one limbs' product after the other.
func partBig(a, b api.Wide, place int) *big.Int {
	z := new(big.Int)
	for i := range a {
		for k := range b {
			if i+k < place {
				continue
			}
			x := new(big.Int).Mul(new(big.Int).SetUint64(a[i]), new(big.Int).SetUint64(b[k]))
			z.Add(z, x.Lsh(x, uint(64*(i+k))))
		}
	}
	return z.Rsh(z, uint(64*max(place, 0)))
}

func TestMul(t *testing.T) {
	for _, a := range numbers() {
		for _, b := range numbers() {
			want := new(big.Int).Mul(toBig(a), toBig(b))
			if p, fits := Mul(a, b); p != fromBig(want) || fits != (want.Cmp(whole) < 0) {
				t.Errorf("Mul(%x, %x): %x, %v", a, b, p, fits)
			}
			want.Mul(toBig(a), new(big.Int).SetUint64(b[0]))
			if p, fits := Small(a, b[0]); p != fromBig(want) || fits != (want.Cmp(whole) < 0) {
				t.Errorf("Small(%x, %x): %x, %v", a, b[0], p, fits)
			}
		}
		want := new(big.Int).Mul(toBig(a), toBig(a))
		if p, fits := Square(a); p != fromBig(want) || fits != (want.Cmp(whole) < 0) {
			t.Errorf("Square(%x): %x, %v", a, p, fits)
		}
	}
}

func TestMulAroundTheEnd(t *testing.T) {
	// 2^512 - 1 is 3 times a third of it; one more is beyond.
	third := fromBig(new(big.Int).Div(whole, big.NewInt(3)))
	more, _ := wide.Add(third, wide.Of(1))
	for _, c := range []struct {
		a, b, want api.Wide
		fits       bool
	}{
		{third, wide.Of(3), wide.Mask(512), true},
		{more, wide.Of(3), wide.Of(2), false},
		{wide.Mask(512), wide.Of(1), wide.Mask(512), true},
		{wide.Mask(512), wide.Of(2), fromBig(big.NewInt(-2)), false},
		{wide.Mask(512), wide.Mask(512), wide.Of(1), false},
		{wide.Power(511), wide.Of(1), wide.Power(511), true},
		{wide.Power(511), wide.Of(2), api.Wide{}, false},
		{wide.Power(256), wide.Power(255), wide.Power(511), true},
		{wide.Power(256), wide.Power(256), api.Wide{}, false},
	} {
		if p, fits := Mul(c.a, c.b); p != c.want || fits != c.fits {
			t.Errorf("Mul(%x, %x): %x, %v", c.a, c.b, p, fits)
		}
		if p, fits := Small(c.a, c.b[0]); c.b == wide.Of(c.b[0]) && (p != c.want || fits != c.fits) {
			t.Errorf("Small(%x, %x): %x, %v", c.a, c.b[0], p, fits)
		}
	}
	// The greatest square that fits is of 2^256 - 1.
	if p, fits := Square(wide.Mask(256)); !fits || p != fromBig(new(big.Int).Mul(toBig(wide.Mask(256)), toBig(wide.Mask(256)))) {
		t.Error("Square of 2^256 - 1", p, fits)
	}
	if p, fits := Square(wide.Power(256)); fits || p != (api.Wide{}) {
		t.Error("Square of 2^256", p, fits)
	}
}

func TestHigh(t *testing.T) {
	counts := []int{math.MinInt, -1 << 40, -512, -1, 0, 1, 2, 63, 64, 65, 255, 300, 448, 510, 511, 512, 513, 514, 575, 576, 577, 640, 1000, 1022, 1023, 1024, 1025,
		1536, 1537, 2000, 1 << 16, 1<<16 + 1, 1 << 40, math.MaxInt}
	for _, a := range numbers() {
		for _, b := range numbers() {
			p := new(big.Int).Mul(toBig(a), toBig(b))
			for _, n := range counts {
				by := uint(min(max(n, 0), 3000))
				q := new(big.Int).Rsh(p, by)
				rest := new(big.Int).Lsh(q, by).Cmp(p) != 0
				if h, r := High(a, b, n); h != fromBig(q) || r != rest {
					t.Errorf("High(%x, %x, %d): %x, %v", a, b, n, h, r)
				}
			}
		}
	}
}

func TestPart(t *testing.T) {
	for _, a := range numbers() {
		for _, b := range numbers() {
			for place := -2; place < 18; place++ {
				if p := Part(a, b, place); p != fromBig(partBig(a, b, place)) {
					t.Errorf("Part(%x, %x, %d): %x", a, b, place, p)
				}
			}
			product, _ := Mul(a, b)
			if Part(a, b, math.MinInt) != product || Part(a, b, -1) != product || Part(a, b, 0) != product {
				t.Errorf("Part of %x, %x from below 0, and from 0", a, b)
			}
			if Part(a, b, 14) != fromBig(new(big.Int).Mul(new(big.Int).SetUint64(a[7]), new(big.Int).SetUint64(b[7]))) {
				t.Errorf("Part of %x, %x from 14", a, b)
			}
			for _, place := range []int{15, 16, 17, 1 << 16, 1 << 40, math.MaxInt} {
				if Part(a, b, place) != (api.Wide{}) {
					t.Errorf("Part of %x, %x from %d", a, b, place)
				}
			}
		}
	}
}

func TestPartLacksLittle(t *testing.T) {
	for _, a := range numbers() {
		for _, b := range numbers() {
			p := new(big.Int).Mul(toBig(a), toBig(b))
			// From 8 on a part has 512 bits at most, so none of it is cut off.
			for place := 8; place < 15; place++ {
				part := toBig(Part(a, b, place))
				lacks := part.Sub(p, part.Lsh(part, uint(64*place)))
				bound := new(big.Int).Lsh(big.NewInt(int64(place)), uint(64*place+64))
				if lacks.Sign() < 0 || lacks.Cmp(bound) >= 0 {
					t.Errorf("Part(%x, %x, %d) lacks %x", a, b, place, lacks)
				}
			}
			// Of smaller ones none is cut off from any place on.
			a, _ := wide.Shr(a, 256)
			b, _ := wide.Shr(b, 256)
			p.Mul(toBig(a), toBig(b))
			for place := 1; place < 8; place++ {
				part := toBig(Part(a, b, place))
				lacks := part.Sub(p, part.Lsh(part, uint(64*place)))
				bound := new(big.Int).Lsh(big.NewInt(int64(place)), uint(64*place+64))
				if lacks.Sign() < 0 || lacks.Cmp(bound) >= 0 {
					t.Errorf("Part(%x, %x, %d) lacks %x", a, b, place, lacks)
				}
			}
		}
	}
}

func TestSum(t *testing.T) {
	if Sum() != (api.Wide{}) || Sum(nil...) != (api.Wide{}) {
		t.Error("Sum of none")
	}
	l := numbers()
	want := new(big.Int)
	for n := range l {
		if Sum(l[:n]...) != fromBig(want) {
			t.Errorf("Sum of %d: %x", n, Sum(l[:n]...))
		}
		want.Add(want, toBig(l[n]))
		if Sum(l[n]) != l[n] {
			t.Errorf("Sum of one: %x", Sum(l[n]))
		}
	}
	if !slices.Equal(l, numbers()) {
		t.Error("Sum changed what it was handed")
	}
	if Sum(wide.Mask(512), wide.Of(1)) != (api.Wide{}) || Sum(wide.Power(511), wide.Power(511), wide.Of(3)) != wide.Of(3) {
		t.Error("Sum beyond 2^512")
	}
}

func TestPower(t *testing.T) {
	for _, a := range numbers() {
		want := big.NewInt(1)
		below := true
		for n := range 513 {
			if p, fits := Power(a, n); p != fromBig(want) || fits != below {
				t.Fatalf("Power(%x, %d): %x, %v", a, n, p, fits)
			}
			want.Mul(want, toBig(a))
			below = below && want.Cmp(whole) < 0
			want.Mod(want, whole)
		}
		for _, n := range []int{0, -1, -2, -512, math.MinInt} {
			if p, fits := Power(a, n); p != wide.Of(1) || !fits {
				t.Errorf("Power(%x, %d): %x, %v", a, n, p, fits)
			}
		}
		for _, n := range []int{513, 514, 600, 1023, 1024, 1 << 16, 1<<40 - 1, 1 << 62, math.MaxInt} {
			small := wide.Cmp(a, wide.Of(1)) <= 0
			p, fits := Power(a, n)
			if fits != small || small && p != a {
				t.Errorf("Power(%x, %d): %x, %v", a, n, p, fits)
			}
		}
	}
	if p, fits := Power(wide.Of(2), 511); p != wide.Power(511) || !fits {
		t.Error("the greatest power of 2", p, fits)
	}
	if p, fits := Power(wide.Of(2), 512); p != (api.Wide{}) || fits {
		t.Error("2^512", p, fits)
	}
}

func TestExamples(t *testing.T) {
	a := wide.Power(256)
	if p, fits := Mul(a, a); p != (api.Wide{}) || fits {
		t.Error("Mul(2^256, 2^256)", p, fits)
	}
	if h, rest := High(a, a, 300); h != wide.Power(212) || rest {
		t.Error("High of these by 300", h, rest)
	}
}
