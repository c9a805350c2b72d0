package pack

import (
	"math"
	"math/big"
	"strings"
	"testing"

	"radicand/api"
	"radicand/unpack"
)

const ones64 = math.MaxUint64

// edge is how far Exp may be from 0.
const edge = 1048576

// strangers are numbers of no format and no mode: those beside the first and the last, below 0, far above, and such as are one's if their upper bits are lost.
var strangers = []int{0, 6, 7, 16, 32, 64, 128, -1, -2, -3, -4, -5, 1<<8 + 1, 1<<16 + 2, 1<<32 + 3, 1<<40 + 4, 1<<62 + 1, math.MaxInt32, math.MinInt32, math.MaxInt, math.MinInt, math.MinInt + 4}

// kind is a format: its bits and its precision, the places of its least normal number and of its greatest one.
type kind struct{ f, bits, prec, emin, emax int }

var kinds = []kind{{api.F16, 16, 11, -14, 15}, {api.F32, 32, 24, -126, 127}, {api.F64, 64, 53, -1022, 1023}, {api.F128, 128, 113, -16382, 16383}}

// modes are all modes, and what the library calls them.
var modes = []struct {
	m  int
	to big.RoundingMode
}{{api.Even, big.ToNearestEven}, {api.Away, big.ToNearestAway}, {api.Zero, big.ToZero}, {api.Up, big.ToPositiveInf}, {api.Down, big.ToNegativeInf}}

var both = []bool{false, true}

var (
	full     = api.Wide{ones64, ones64, ones64, ones64, ones64, ones64, ones64, ones64}
	greatest = api.Wide{ones64, ones64, ones64, ones64, ones64, ones64, ones64, ones64 >> 1} // 2^511 - 1
	over     = api.Wide{7: 1 << 63}                                                          // 2^511
)

func toBig(a api.Wide) *big.Int {
	z := new(big.Int)
	for i := len(a) - 1; i >= 0; i-- {
		z.Lsh(z, 64).Or(z, new(big.Int).SetUint64(a[i]))
	}
	return z
}

func fromBig(z *big.Int) api.Wide {
	var w api.Wide
	z = new(big.Int).Set(z)
	for i := range w {
		w[i] = new(big.Int).And(z, new(big.Int).SetUint64(ones64)).Uint64()
		z.Rsh(z, 64)
	}
	return w
}

func power(n int) *big.Int {
	return new(big.Int).Lsh(big.NewInt(1), uint(n))
}

// ones is as many ones.
func ones(n int) *big.Int {
	return new(big.Int).Sub(power(n), big.NewInt(1))
}

func plus(z *big.Int, n int64) *big.Int {
	return new(big.Int).Add(z, big.NewInt(n))
}

// signed is the word of a format's bits, with its sign's bit, if neg.
func signed(k kind, z *big.Int, neg bool) api.Word {
	if neg {
		z = new(big.Int).SetBit(z, k.bits-1, 1)
	}
	a := fromBig(z)
	return api.Word{Hi: a[1], Lo: a[0]}
}

// infinite is the bits of the infinite word.
func infinite(k kind) *big.Int {
	return new(big.Int).Lsh(ones(k.bits-k.prec), uint(k.prec-1))
}

// float is a number; with more, a half of a last place stands for it.
func float(n api.Number, more bool) *big.Float {
	z := new(big.Int).Lsh(toBig(n.Sig), 1)
	if more {
		z.SetBit(z, 0, 1)
	}
	x := new(big.Float).SetPrec(600).SetInt(z)
	x.SetMantExp(x, n.Exp-1)
	if n.Neg {
		x.Neg(x)
	}
	return x
}

// number is what a float stands for, with an odd Sig.
func number(x *big.Float) api.Number {
	if x.Sign() == 0 {
		return api.Number{Neg: x.Signbit()}
	}
	digits := int(x.MinPrec())
	mant := new(big.Float)
	exp := x.MantExp(mant)
	z, _ := mant.SetMantExp(mant, digits).Int(nil)
	return api.Number{Neg: x.Signbit(), Exp: exp - digits, Sig: fromBig(z.Abs(z))}
}

// nearest is a float, rounded to so many digits by the library, and whether it is another one.
func nearest(x *big.Float, p int, to big.RoundingMode) (*big.Float, bool) {
	r := new(big.Float).SetPrec(uint(p)).SetMode(to).Set(x)
	return r, r.Cmp(x) != 0
}

// whole is a float, rounded to a whole number, without its sign, and whether it is another one.
func whole(x *big.Float, to big.RoundingMode) (*big.Int, bool) {
	if exp := x.MantExp(nil); exp > 0 {
		r, is := nearest(x, exp, to)
		z, _ := r.Int(nil)
		return z.Abs(z), is
	}
	half := new(big.Float).Abs(x).Cmp(big.NewFloat(0.5))
	grows := false
	switch to {
	case big.ToNearestEven:
		grows = half > 0
	case big.ToNearestAway:
		grows = half >= 0
	case big.ToPositiveInf:
		grows = !x.Signbit()
	case big.ToNegativeInf:
		grows = x.Signbit()
	}
	if grows {
		return big.NewInt(1), true
	}
	return new(big.Int), x.Sign() != 0
}

// asked is what the document asks of a float that isn't 0, rounded to a format.
func asked(k kind, x *big.Float, to big.RoundingMode) (api.Word, int) {
	neg := x.Signbit()
	u, is := nearest(x, k.prec, to)
	place := u.MantExp(nil) - 1
	switch {
	case place > k.emax:
		z := infinite(k)
		if to == big.ToZero || to == big.ToPositiveInf && neg || to == big.ToNegativeInf && !neg {
			z = plus(z, -1)
		}
		return signed(k, z, neg), api.Overflow | api.Inexact
	case place < k.emin:
		z, is := whole(new(big.Float).SetMantExp(x, k.prec-1-k.emin), to)
		if is {
			return signed(k, z, neg), api.Underflow | api.Inexact
		}
		return signed(k, z, neg), 0
	}
	z, _ := new(big.Float).SetMantExp(u, k.prec-1-place).Int(nil)
	// The highest digit counts as 1 in the field.
	z.Abs(z).Add(z, new(big.Int).Lsh(big.NewInt(int64(place-k.emin)), uint(k.prec-1)))
	if is {
		return signed(k, z, neg), api.Inexact
	}
	return signed(k, z, neg), 0
}

// tails are what stands behind digits that stay: nothing, 0, just below a half, a half, just above, and more of that, in so much room.
func tails(room int) []string {
	l := []string{"", "0", "1", "00", "01", "10", "11", "011", "100", "101", "111"}
	for _, n := range []int{40, room} {
		if n > 3 {
			l = append(l, "0"+strings.Repeat("1", n-1), "1"+strings.Repeat("0", n-1), "1"+strings.Repeat("0", n-2)+"1", strings.Repeat("0", n-1)+"1", strings.Repeat("1", n))
		}
	}
	return l
}

// heads are so many digits that stay: even and odd ones, the least and the greatest.
func heads(n int) []string {
	if n == 1 {
		return []string{"1"}
	}
	mid := strings.Repeat("01", n)[:n-2]
	return []string{"1" + strings.Repeat("0", n-1), "1" + strings.Repeat("0", n-2) + "1", "1" + mid + "0", "1" + mid + "1", strings.Repeat("1", n-1) + "0", strings.Repeat("1", n)}
}

// sigs are so many digits, with what is told of behind them.
func sigs(n int) []*big.Int {
	var l []*big.Int
	for _, head := range heads(n) {
		for _, tail := range tails(511 - n) {
			if z, _ := new(big.Int).SetString(head+tail, 2); z.BitLen() <= 511 {
				l = append(l, z)
			}
		}
	}
	return l
}

func TestRight(t *testing.T) {
	for _, p := range []int{1, 2, 11, 113, 499, 500} {
		for _, c := range []struct {
			sig         api.Wide
			plain, more bool
		}{
			{api.Wide{}, true, false}, {api.Wide{1}, true, false}, {fromBig(ones(p - 1)), true, false},
			{fromBig(power(p - 1)), true, false}, {fromBig(ones(p)), true, false}, {fromBig(power(p)), true, true}, {fromBig(ones(p + 1)), true, true},
			{fromBig(power(510)), true, true}, {greatest, true, true}, {over, false, false}, {full, false, false},
		} {
			for _, neg := range both {
				for _, exp := range []int{-edge, -edge + 1, -1, 0, 1, edge - 1, edge} {
					n := api.Number{Neg: neg, Exp: exp, Sig: c.sig}
					if Right(p, n, false) != c.plain || Right(p, n, true) != c.more {
						t.Errorf("Right(%d, %v, ..): %v, with more %v", p, n, Right(p, n, false), Right(p, n, true))
					}
				}
			}
		}
	}
}

// noDigits are numbers of digits that nothing is rounded to.
var noDigits = []int{0, -1, -2, -11, -500, 501, 502, 511, 512, 1 << 20, 1<<32 + 11, math.MaxInt, math.MinInt, math.MinInt + 11}

// farOff are Exps that no right number has.
var farOff = []int{edge + 1, -edge - 1, 2 * edge, -2 * edge, 1 << 32, 1<<62 + 3, math.MaxInt, math.MaxInt - 511, math.MinInt, math.MinInt + 511}

// refused is whether a number may not be rounded to so many digits, by any mode, nor to the format of that precision.
func refused(t *testing.T, p int, n api.Number, more bool) {
	t.Helper()
	if Right(p, n, more) {
		t.Errorf("Right(%d, %v, %v)", p, n, more)
	}
	for _, c := range modes {
		if got, is, e := Digits(p, c.m, n, more); got != (api.Number{}) || is || e != api.ErrArg {
			t.Errorf("Digits(%d, %d, %v, %v): %v, %v, %d", p, c.m, n, more, got, is, e)
		}
		for _, k := range kinds {
			if k.prec != p {
				continue
			}
			if w, flags, e := Round(k.f, c.m, n, more); w != (api.Word{}) || flags != 0 || e != api.ErrArg {
				t.Errorf("Round(%d, %d, %v, %v): %x, %d, %d", k.f, c.m, n, more, w, flags, e)
			}
		}
	}
}

func TestOfWhatIsNotRightNothingIsTold(t *testing.T) {
	for _, neg := range both {
		for _, more := range both {
			for _, p := range noDigits {
				for _, sig := range []api.Wide{{}, {1}, {4095}, greatest} {
					refused(t, p, api.Number{Neg: neg, Sig: sig}, more)
				}
			}
			for _, p := range []int{1, 11, 24, 53, 113, 500} {
				for _, exp := range farOff {
					for _, sig := range []api.Wide{{}, {1}, greatest, full} {
						refused(t, p, api.Number{Neg: neg, Exp: exp, Sig: sig}, more)
					}
				}
				for _, exp := range []int{-edge, 0, edge} {
					refused(t, p, api.Number{Neg: neg, Exp: exp, Sig: over}, more)
					refused(t, p, api.Number{Neg: neg, Exp: exp, Sig: full}, more)
				}
			}
		}
		for _, p := range []int{1, 11, 24, 53, 113, 500} {
			for _, sig := range []api.Wide{{}, {1}, fromBig(power(p - 1)), fromBig(ones(p))} {
				refused(t, p, api.Number{Neg: neg, Sig: sig}, true)
			}
		}
	}
}

func TestOfNoModeAndNoFormatNothingIsTold(t *testing.T) {
	numbers := []api.Number{{}, {Neg: true}, {Sig: api.Wide{1}}, {Neg: true, Exp: -3, Sig: api.Wide{1025}}, {Exp: edge, Sig: greatest}}
	wrong := func(f, m int) {
		t.Helper()
		for _, n := range numbers {
			for _, more := range both {
				if w, flags, e := Round(f, m, n, more); w != (api.Word{}) || flags != 0 || e != api.ErrArg {
					t.Errorf("Round(%d, %d, %v, %v): %x, %d, %d", f, m, n, more, w, flags, e)
				}
			}
		}
	}
	for _, m := range strangers {
		for _, k := range kinds {
			wrong(k.f, m)
		}
		for _, n := range numbers {
			for _, p := range []int{1, 11, 500, 0} {
				for _, more := range both {
					if got, is, e := Digits(p, m, n, more); got != (api.Number{}) || is || e != api.ErrArg {
						t.Errorf("Digits(%d, %d, %v, %v): %v, %v, %d", p, m, n, more, got, is, e)
					}
				}
			}
		}
	}
	for _, f := range append(strangers, 5) {
		for m := range 7 {
			wrong(f, m)
		}
	}
}

// digitsHeld holds Digits of a number, by each mode and sign, against the library's.
func digitsHeld(t *testing.T, p int, n api.Number, more bool) {
	t.Helper()
	for _, n.Neg = range both {
		x := float(n, more)
		for _, c := range modes {
			r, is := nearest(x, p, c.to)
			want := number(r)
			if got, off, e := Digits(p, c.m, n, more); got != want || off != is || e != api.OK {
				t.Errorf("Digits(%d, %d, %v, %v): %v, %v, %d, not %v", p, c.m, n, more, got, off, e, want)
			}
		}
	}
}

func TestDigits(t *testing.T) {
	for _, p := range []int{1, 2, 3, 11, 24, 53, 63, 64, 65, 113, 128, 499, 500} {
		for _, n := range []int{p - 1, p, p + 1} {
			if n < 1 {
				continue
			}
			for _, sig := range sigs(n) {
				for _, exp := range []int{-edge, -7, 0, edge} {
					digitsHeld(t, p, api.Number{Exp: exp, Sig: fromBig(sig)}, false)
					if sig.BitLen() > p {
						digitsHeld(t, p, api.Number{Exp: exp, Sig: fromBig(sig)}, true)
					}
				}
			}
		}
	}
}

func TestDigitsOfNought(t *testing.T) {
	for _, p := range []int{1, 2, 11, 500} {
		for _, c := range modes {
			for _, exp := range []int{-edge, -1, 0, 1, edge} {
				for _, neg := range both {
					if got, is, e := Digits(p, c.m, api.Number{Neg: neg, Exp: exp}, false); got != (api.Number{Neg: neg}) || is || e != api.OK {
						t.Errorf("Digits(%d, %d, 0 with %v): %v, %v, %d", p, c.m, neg, got, is, e)
					}
				}
			}
		}
	}
}

// TestDigitsRoundedUpToOneMore is of numbers of ones, of which one digit more is made.
func TestDigitsRoundedUpToOneMore(t *testing.T) {
	for _, p := range []int{1, 2, 11, 24, 53, 113, 499, 500} {
		for _, c := range []struct {
			sig  *big.Int
			more bool
		}{{ones(p + 1), false}, {ones(p + 1), true}, {ones(511), false}, {ones(511), true}} {
			z := c.sig
			for _, m := range []int{api.Even, api.Away, api.Up} {
				for _, exp := range []int{-edge, 0, edge} {
					n := api.Number{Exp: exp, Sig: fromBig(z)}
					want := api.Number{Exp: exp + z.BitLen(), Sig: api.Wide{1}}
					if got, is, e := Digits(p, m, n, c.more); got != want || !is || e != api.OK {
						t.Errorf("Digits(%d, %d, %v, %v): %v, %v, %d", p, m, n, c.more, got, is, e)
					}
				}
			}
			for _, m := range []int{api.Zero, api.Down} {
				want := api.Number{Exp: z.BitLen() - p, Sig: fromBig(ones(p))}
				if got, is, e := Digits(p, m, api.Number{Sig: fromBig(z)}, c.more); got != want || !is || e != api.OK {
					t.Errorf("Digits(%d, %d, %x, %v): %v, %v, %d", p, m, z, c.more, got, is, e)
				}
			}
		}
	}
}

// roundHeld holds Round of a number that isn't 0, by each mode and sign, against what the document asks.
func roundHeld(t *testing.T, k kind, n api.Number, more bool) {
	t.Helper()
	for _, n.Neg = range both {
		x := float(n, more)
		for _, c := range modes {
			want, flags := asked(k, x, c.to)
			if got, told, e := Round(k.f, c.m, n, more); got != want || told != flags || e != api.OK {
				t.Errorf("Round(%d, %d, %v, %v): %x, %d, %d, not %x, %d", k.f, c.m, n, more, got, told, e, want, flags)
			}
		}
	}
}

func TestRound(t *testing.T) {
	for _, k := range kinds {
		least := k.emin - k.prec + 1
		for _, digits := range []int{1, 2, 3, k.prec - 1, k.prec, k.prec + 1} {
			places := []int{0, k.emax - 1, k.emax, k.emax + 1, k.emin + 1, k.emin, k.emin - 1, k.emin - 2, least + digits, least + digits - 1, least + digits - 2, least + 1, least, least - 1, least - 2, least - 60}
			for _, sig := range sigs(digits) {
				for _, place := range places {
					n := api.Number{Exp: place - sig.BitLen() + 1, Sig: fromBig(sig)}
					roundHeld(t, k, n, false)
					if sig.BitLen() > k.prec {
						roundHeld(t, k, n, true)
					}
				}
			}
		}
	}
}

func TestRoundAtTheEdgesOfExp(t *testing.T) {
	for _, k := range kinds {
		for _, sig := range []api.Wide{{1}, {2}, {3}, {ones64}, fromBig(ones(k.prec)), fromBig(power(k.prec)), fromBig(power(510)), greatest} {
			for _, exp := range []int{-edge, -edge + 1, edge - 1, edge} {
				n := api.Number{Exp: exp, Sig: sig}
				for _, more := range both {
					if Right(k.prec, n, more) {
						roundHeld(t, k, n, more)
					}
				}
			}
		}
	}
}

func TestRoundOfNought(t *testing.T) {
	for _, k := range kinds {
		for _, c := range modes {
			for _, exp := range []int{-edge, k.emin - k.prec, -1, 0, 1, k.emax + 1, edge} {
				for _, neg := range both {
					want := signed(k, new(big.Int), neg)
					if got, flags, e := Round(k.f, c.m, api.Number{Neg: neg, Exp: exp}, false); got != want || flags != 0 || e != api.OK {
						t.Errorf("Round(%d, %d, 0 with %v): %x, %d, %d", k.f, c.m, neg, got, flags, e)
					}
				}
			}
		}
	}
}

// expect is whether a number is rounded to that word of binary16 and these flags.
func expect(t *testing.T, m int, sig uint64, exp int, neg, more bool, want uint64, flags int) {
	t.Helper()
	n := api.Number{Neg: neg, Exp: exp, Sig: api.Wide{sig}}
	if w, told, e := Round(api.F16, m, n, more); w != (api.Word{Lo: want}) || told != flags || e != api.OK {
		t.Errorf("Round(1, %d, %d times 2^%d, %v, %v): %x, %d, %d", m, sig, exp, neg, more, w, told, e)
	}
}

func TestWhatJustOverflows(t *testing.T) {
	const ox, x = api.Overflow | api.Inexact, api.Inexact
	for _, c := range []struct {
		m         int
		neg, more bool
		sig       uint64
		want      uint64
		flags     int
	}{
		{api.Even, false, false, 65504, 0x7bff, 0}, {api.Even, false, true, 65504, 0x7bff, x}, {api.Even, false, true, 65519, 0x7bff, x}, {api.Even, false, false, 65520, 0x7c00, ox},
		{api.Even, true, false, 65504, 0xfbff, 0}, {api.Even, true, true, 65519, 0xfbff, x}, {api.Even, true, false, 65520, 0xfc00, ox}, {api.Even, true, true, 65520, 0xfc00, ox},
		{api.Away, false, true, 65519, 0x7bff, x}, {api.Away, false, false, 65520, 0x7c00, ox}, {api.Away, true, true, 65519, 0xfbff, x}, {api.Away, true, false, 65520, 0xfc00, ox},
		{api.Zero, false, true, 65535, 0x7bff, x}, {api.Zero, false, false, 65536, 0x7bff, ox}, {api.Zero, true, true, 65535, 0xfbff, x}, {api.Zero, true, false, 65536, 0xfbff, ox},
		{api.Up, false, false, 65504, 0x7bff, 0}, {api.Up, false, true, 65504, 0x7c00, ox}, {api.Up, false, false, 65505, 0x7c00, ox},
		{api.Up, true, false, 65504, 0xfbff, 0}, {api.Up, true, true, 65535, 0xfbff, x}, {api.Up, true, false, 65536, 0xfbff, ox},
		{api.Down, true, false, 65504, 0xfbff, 0}, {api.Down, true, true, 65504, 0xfc00, ox}, {api.Down, true, false, 65505, 0xfc00, ox},
		{api.Down, false, false, 65504, 0x7bff, 0}, {api.Down, false, true, 65535, 0x7bff, x}, {api.Down, false, false, 65536, 0x7bff, ox},
	} {
		expect(t, c.m, c.sig, 0, c.neg, c.more, c.want, c.flags)
	}
}

// TestWhatIsTiny is of numbers in quarters and eighths of binary16's last place, about 2^emin: whether they are tiny is told of so many digits as normal ones have.
func TestWhatIsTiny(t *testing.T) {
	const ux, x = api.Underflow | api.Inexact, api.Inexact
	for _, c := range []struct {
		m         int
		neg, more bool
		sig       uint64
		exp       int
		want      uint64
		flags     int
	}{
		// 4094 is 1023 and a half places: of 11 digits, so it stays below 2^emin, and is tiny; but is rounded up to it.
		{api.Even, false, false, 4094, -26, 0x0400, ux}, {api.Away, false, false, 4094, -26, 0x0400, ux}, {api.Up, false, false, 4094, -26, 0x0400, ux}, {api.Down, true, false, 4094, -26, 0x8400, ux},
		{api.Zero, false, false, 4094, -26, 0x03ff, ux}, {api.Up, true, false, 4094, -26, 0x83ff, ux}, {api.Down, false, false, 4094, -26, 0x03ff, ux},
		// 8189 is below a half of the way from there to 2^emin, 8190 and 8190 with more are at and above it.
		{api.Even, false, false, 8189, -27, 0x0400, ux}, {api.Even, false, true, 8189, -27, 0x0400, ux}, {api.Even, false, false, 8190, -27, 0x0400, x}, {api.Even, true, true, 8190, -27, 0x8400, x},
		{api.Away, false, true, 8189, -27, 0x0400, ux}, {api.Away, true, false, 8190, -27, 0x8400, x}, {api.Up, false, true, 8188, -27, 0x0400, x}, {api.Up, false, false, 8188, -27, 0x0400, ux}, {api.Down, true, true, 8188, -27, 0x8400, x},
		{api.Zero, false, true, 8191, -27, 0x03ff, ux}, {api.Down, false, true, 8191, -27, 0x03ff, ux}, {api.Up, true, true, 8191, -27, 0x83ff, ux}, {api.Even, false, false, 8192, -27, 0x0400, 0},
		// Below the least one: a half of it, and its neighbours.
		{api.Even, false, false, 1, -25, 0, ux}, {api.Even, true, false, 1, -25, 0x8000, ux}, {api.Even, false, true, 4096, -37, 1, ux}, {api.Even, false, true, 4095, -37, 0, ux}, {api.Even, false, false, 3, -25, 2, ux}, {api.Even, false, false, 5, -25, 2, ux},
		{api.Away, false, false, 1, -25, 1, ux}, {api.Away, true, false, 1, -25, 0x8001, ux}, {api.Away, false, true, 4095, -37, 0, ux}, {api.Zero, false, true, 8191, -37, 0, ux}, {api.Zero, true, false, 1, -25, 0x8000, ux},
		{api.Up, false, false, 1, -edge, 1, ux}, {api.Up, true, false, 1, -25, 0x8000, ux}, {api.Down, false, false, 1, -25, 0, ux}, {api.Down, true, false, 1, -edge, 0x8001, ux},
		{api.Even, false, false, 1, -24, 1, 0}, {api.Up, true, false, 2, -25, 0x8001, 0}, {api.Zero, false, false, 1023, -24, 0x03ff, 0},
	} {
		expect(t, c.m, c.sig, c.exp, c.neg, c.more, c.want, c.flags)
	}
}

// TestBetweenWordsOfBinary16 is of numbers at words, even and odd, and just below, at and above the middle of each and the next one.
func TestBetweenWordsOfBinary16(t *testing.T) {
	for w := uint64(0); w < 0x7c00; w += 3 {
		sig, exp := w&1023, -24
		if field := int(w >> 10); field > 0 {
			sig, exp = sig|1024, exp+field-1
		}
		for _, off := range []uint64{0, 1, 2047, 2048, 2049, 4095} { // of 4096 parts of a last place
			n := api.Number{Exp: exp - 12, Sig: api.Wide{sig<<12 + off}}
			for _, more := range both {
				if n.Sig != (api.Wide{}) && Right(11, n, more) {
					roundHeld(t, kinds[0], n, more)
				}
			}
		}
	}
}

// TestMachinesFloats holds Round by Even against what the machine makes of floats of 64 bits as of 32.
func TestMachinesFloats(t *testing.T) {
	mix := uint64(0x0123456789abcdef)
	for i := range 20000 {
		mix = mix*6364136223846793005 + 1442695040888963407
		bits := mix ^ mix>>29
		field := uint64(1023-155+i%290) << 52 // from below binary32's least number to beyond its greatest one
		x := math.Float64frombits(bits&^(0x7ff<<52) | field)
		n, _ := unpack.Value(api.F64, api.Word{Lo: math.Float64bits(x)})
		y := float32(x)
		if w, flags, e := Round(api.F32, api.Even, n, false); w != (api.Word{Lo: uint64(math.Float32bits(y))}) || flags&api.Inexact != 0 != (float64(y) != x) || e != api.OK {
			t.Errorf("Round of %x to binary32: %x, %d, %d", math.Float64bits(x), w, flags, e)
		}
	}
}

// samples are finite words of a format, without a sign: the edges of its classes, and mixed ones.
func samples(k kind) []*big.Int {
	inf, normal, one := infinite(k), power(k.prec-1), new(big.Int).Lsh(big.NewInt(int64(k.emax)), uint(k.prec-1))
	l := []*big.Int{new(big.Int), big.NewInt(1), big.NewInt(2), plus(normal, -2), plus(normal, -1), normal, plus(normal, 1), plus(one, -1), one, plus(one, 1), plus(inf, -2), plus(inf, -1)}
	mix := uint64(0x0123456789abcdef)
	for range 500 {
		z := new(big.Int)
		for range 2 {
			mix = mix*6364136223846793005 + 1442695040888963407
			z.Lsh(z, 64).Or(z, new(big.Int).SetUint64(mix^mix>>29))
		}
		l = append(l, z.Mod(z, inf))
	}
	return l
}

// ownHeld is whether a word's own number, however told, is rounded to it, without flags, by each mode.
func ownHeld(t *testing.T, k kind, w api.Word) {
	t.Helper()
	n, _ := unpack.Value(k.f, w)
	l := []api.Number{n, unpack.Short(n), {Neg: n.Neg, Exp: n.Exp - 300, Sig: fromBig(new(big.Int).Lsh(toBig(n.Sig), 300))}}
	if u, ok := unpack.Unpack(k.f, w); ok {
		l = append(l, u)
	}
	for _, n := range l {
		for _, c := range modes {
			if got, flags, e := Round(k.f, c.m, n, false); got != w || flags != 0 || e != api.OK {
				t.Errorf("Round(%d, %d, %v), the number of %x: %x, %d, %d", k.f, c.m, n, w, got, flags, e)
			}
		}
	}
}

func TestWordsOwnNumbers(t *testing.T) {
	for _, neg := range both {
		for w := range int64(0x7c00) {
			ownHeld(t, kinds[0], signed(kinds[0], big.NewInt(w), neg))
		}
		for _, k := range kinds {
			for _, z := range samples(k) {
				ownHeld(t, k, signed(k, z, neg))
			}
		}
	}
}

// TestRisingNumbers goes through numbers that rise by eighths of a last place, about 0, 2^emin, a power of 2, and 2^(emax + 1), with more between them.
func TestRisingNumbers(t *testing.T) {
	for _, k := range kinds {
		about := []api.Number{{Exp: k.emin - k.prec - 2}, {Exp: k.emin - k.prec - 2, Sig: fromBig(plus(power(k.prec+2), -60))},
			{Exp: -k.prec - 2, Sig: fromBig(plus(power(k.prec+2), -60))}, {Exp: k.emax - k.prec - 2, Sig: fromBig(plus(power(k.prec+3), -60))}}
		for _, n := range about {
			first := toBig(n.Sig)
			for _, c := range modes {
				plain, minus := api.Word{}, signed(k, new(big.Int), true)
				for i := range int64(120) {
					n.Sig = fromBig(plus(first, i))
					for _, more := range both {
						if !Right(k.prec, n, more) {
							continue
						}
						n.Neg = false
						next, _, _ := Round(k.f, c.m, n, more)
						n.Neg = true
						below, _, _ := Round(k.f, c.m, n, more)
						// Words without a sign rise as their bits do, those with one fall so.
						if less(next, plain) || less(below, minus) {
							t.Errorf("Round(%d, %d, %v, %v): %x and %x, behind %x and %x", k.f, c.m, n, more, next, below, plain, minus)
						}
						plain, minus = next, below
					}
				}
			}
		}
	}
}

func less(a, b api.Word) bool {
	return a.Hi < b.Hi || a.Hi == b.Hi && a.Lo < b.Lo
}

func TestFlags(t *testing.T) {
	want := []string{"-", "i", "z", "iz", "o", "io", "zo", "izo", "u", "iu", "zu", "izu", "ou", "iou", "zou", "izou",
		"x", "ix", "zx", "izx", "ox", "iox", "zox", "izox", "ux", "iux", "zux", "izux", "oux", "ioux", "zoux", "izoux"}
	for flags, text := range want {
		if got := Flags(flags); got != text {
			t.Errorf("Flags(%d): %q", flags, got)
		}
		if got, e := ParseFlags(text); got != flags || e != api.OK {
			t.Errorf("ParseFlags(%q): %d, %d", text, got, e)
		}
	}
	for _, flags := range []int{-1, -2, -16, -31, -32, 32, 33, 63, 64, 1<<8 + 1, 1<<32 + 1, 1<<62 + 2, math.MaxInt32, math.MinInt32, math.MaxInt, math.MinInt, math.MinInt + 1} {
		if got := Flags(flags); got != "" {
			t.Errorf("Flags(%d): %q", flags, got)
		}
	}
}

func TestTextsOfNoFlags(t *testing.T) {
	for _, s := range []string{"", "zi", "xu", "xi", "oz", "xuozi", "izoxu", "ii", "xx", "izz", "izouxx", "--", "-i", "i-", "x-", "I", "X", "a", "ia", "ai", "iax", "0", "1", "16", "31",
		" ", " i", "i ", "i x", "i,x", "-\n", "i\n", "i\x00", "\x00", "\xff", "i\xff", "é", "İ", "х", "–", "invalid", strings.Repeat("i", 5000), "izoux" + strings.Repeat(" ", 5000)} {
		if flags, e := ParseFlags(s); flags != 0 || e != api.ErrForm {
			t.Errorf("ParseFlags(%.20q): %d, %d", s, flags, e)
		}
	}
}

func TestExamples(t *testing.T) {
	expect(t, api.Even, 65520, 0, false, false, 0x7c00, api.Overflow|api.Inexact)
	expect(t, api.Zero, 65520, 0, false, false, 0x7bff, api.Inexact)
	expect(t, api.Even, 1, -25, false, false, 0, api.Underflow|api.Inexact)
	expect(t, api.Up, 1, -25, false, false, 1, api.Underflow|api.Inexact)
}
