package unpack

import (
	"math"
	"math/big"
	"testing"

	"radicand/api"
)

const top = math.MaxUint64

// others are numbers of no format: those beside the first and the last, below 0, far above, and such as are a format's if their upper bits are lost.
var others = []int{0, 5, 6, 16, 32, 64, 128, -1, -2, -3, -4, -5, 1<<8 + 1, 1<<16 + 2, 1<<32 + 3, 1<<40 + 4, 1<<62 + 1, math.MaxInt32, math.MinInt32, math.MaxInt, math.MinInt, math.MinInt + 4}

// kind is a format: its bits and its precision, the place of its least digit and that of its greatest.
type kind struct{ f, bits, prec, least, most int }

var kinds = []kind{{api.F16, 16, 11, -24, 15}, {api.F32, 32, 24, -149, 127}, {api.F64, 64, 53, -1074, 1023}, {api.F128, 128, 113, -16494, 16383}}

// edge is how far Exp may be from 0.
const edge = 1048576

// wrongs are Exps that no right number has.
var wrongs = []int{edge + 1, -edge - 1, edge + 2, -edge - 2, 2 * edge, -2 * edge, 1 << 32, -1 << 32, 1<<32 + 1, 1<<62 + 3, math.MaxInt32, math.MinInt32, math.MaxInt, math.MaxInt - 511, math.MinInt, math.MinInt + 511}

var both = []bool{false, true}

var full = api.Wide{top, top, top, top, top, top, top, top}

func toBig(a api.Wide) *big.Int {
	z := new(big.Int)
	for i := len(a) - 1; i >= 0; i-- {
		z.Lsh(z, 64).Or(z, new(big.Int).SetUint64(a[i]))
	}
	return z
}

func fromBig(z *big.Int) api.Wide {
	var w api.Wide
	z = new(big.Int).Set(z)
	for i := range w {
		w[i] = new(big.Int).And(z, new(big.Int).SetUint64(top)).Uint64()
		z.Rsh(z, 64)
	}
	return w
}

// wordOf is the word of a number's lowest 128 bits.
func wordOf(z *big.Int) api.Word {
	a := fromBig(z)
	return api.Word{Hi: a[1], Lo: a[0]}
}

func power(n int) *big.Int {
	return new(big.Int).Lsh(big.NewInt(1), uint(n))
}

// ones is as many ones.
func ones(n int) *big.Int {
	return new(big.Int).Sub(power(n), big.NewInt(1))
}

// scaled is a right number times 2^edge, a whole one, with its sign.
func scaled(n api.Number) *big.Int {
	z := toBig(n.Sig)
	if n.Sig != (api.Wide{}) {
		z.Lsh(z, uint(n.Exp+edge))
	}
	if n.Neg {
		z.Neg(z)
	}
	return z
}

// minus is a word with the sign's bit turned.
func minus(k kind, w api.Word) api.Word {
	if k.bits == 128 {
		w.Hi ^= 1 << 63
	} else {
		w.Lo ^= 1 << (k.bits - 1)
	}
	return w
}

// edgeWord is a word that stands out, its number and its number unpacked.
type edgeWord struct {
	w               api.Word
	value, unpacked api.Number
}

// edges are the least and the greatest words of each class, and 1 with its neighbours, without a sign.
func edges(k kind) []edgeWord {
	p, fraction := k.prec, k.prec-1
	field := func(n int) *big.Int { return new(big.Int).Lsh(big.NewInt(int64(n)), uint(fraction)) }
	highest := 2 * k.most // the field below that of all ones
	number := func(z *big.Int, exp int) api.Number { return api.Number{Exp: exp, Sig: fromBig(z)} }
	upper := power(p - 1)
	var l []edgeWord
	add := func(w *big.Int, value, unpacked api.Number) { l = append(l, edgeWord{wordOf(w), value, unpacked}) }
	normal := func(w, sig *big.Int, exp int) { add(w, number(sig, exp), number(sig, exp)) }
	add(big.NewInt(1), number(big.NewInt(1), k.least), number(upper, k.least-p+1))
	add(big.NewInt(3), number(big.NewInt(3), k.least), number(new(big.Int).Lsh(big.NewInt(3), uint(p-2)), k.least-p+2))
	add(ones(fraction), number(ones(fraction), k.least), number(new(big.Int).Lsh(ones(fraction), 1), k.least-1))
	add(power(fraction-1), number(power(fraction-1), k.least), number(upper, k.least-1))
	normal(field(1), upper, k.least)
	normal(new(big.Int).Add(field(1), big.NewInt(1)), new(big.Int).Add(upper, big.NewInt(1)), k.least)
	normal(new(big.Int).Add(field(1), ones(fraction)), ones(p), k.least)
	normal(field(2), upper, k.least+1)
	normal(field(k.most), upper, 1-p)
	normal(new(big.Int).Add(field(k.most), big.NewInt(1)), new(big.Int).Add(upper, big.NewInt(1)), 1-p)
	normal(new(big.Int).Add(field(k.most-1), ones(fraction)), ones(p), -p)
	normal(field(highest), upper, k.most-p+1)
	normal(new(big.Int).Add(field(highest), ones(fraction)), ones(p), k.most-p+1)
	return l
}

// noNumbers are words of a format that stand for no number.
func noNumbers(k kind) []api.Word {
	inf := new(big.Int).Lsh(ones(k.bits-k.prec), uint(k.prec-1))
	var l []api.Word
	for _, z := range []*big.Int{new(big.Int), big.NewInt(1), power(k.prec - 3), power(k.prec - 2), ones(k.prec - 2), ones(k.prec - 1)} {
		w := wordOf(new(big.Int).Add(inf, z))
		l = append(l, w, minus(k, w))
	}
	return l
}

// numbers are right ones of all kinds: with 0, 1, the upper digit alone, all ones and mixed digits; from the least Exp to the greatest; as much by other digits; of either sign.
func numbers() []api.Number {
	sigs := []api.Wide{{}, {1}, {2}, {3}, {6}, {0, 3}, {top}, {0, 1}, {7: 1 << 63}, {7: 1 << 62}, {7: 3 << 62}, {0: 1, 7: 1 << 63}, full, {top - 1, top, top, top, top, top, top, top},
		{top, top, top, top, top, top, top, top >> 1}, {0x123456789abcdef0, 5, 0, 77}, {0, 0x123456789abcdef0, 5, 0, 77}}
	var l []api.Number
	for _, exp := range []int{-edge, -edge + 1, -edge + 511, -513, -512, -511, -64, -1, 0, 1, 2, 63, 64, 511, edge - 511, edge - 1, edge} {
		for _, sig := range sigs {
			l = append(l, api.Number{Exp: exp, Sig: sig}, api.Number{Neg: true, Exp: exp, Sig: sig})
		}
	}
	return l
}

func TestRight(t *testing.T) {
	for _, sig := range []api.Wide{{}, {1}, {7: 1 << 63}, full} {
		for _, neg := range both {
			for _, exp := range []int{-edge, -edge + 1, -1, 0, 1, edge - 1, edge} {
				if !Right(api.Number{Neg: neg, Exp: exp, Sig: sig}) {
					t.Errorf("Right with Exp %d", exp)
				}
			}
			for _, exp := range wrongs {
				if Right(api.Number{Neg: neg, Exp: exp, Sig: sig}) {
					t.Errorf("Right with Exp %d", exp)
				}
			}
		}
	}
}

func TestOfWrongNumbersNothingIsTold(t *testing.T) {
	good := []api.Number{{}, {Neg: true}, {Sig: api.Wide{1}}, {Neg: true, Exp: -edge, Sig: full}, {Exp: edge, Sig: full}}
	for _, exp := range wrongs {
		for _, sig := range []api.Wide{{}, {1}, {4}, {7: 1 << 63}, full} {
			for _, neg := range both {
				n := api.Number{Neg: neg, Exp: exp, Sig: sig}
				for _, f := range append([]int{1, 2, 3, 4}, others...) {
					if w, ok := Exact(f, n); w != (api.Word{}) || ok {
						t.Errorf("Exact(%d, %v): %x, %v", f, n, w, ok)
					}
				}
				if s := Short(n); s != (api.Number{}) {
					t.Errorf("Short(%v): %v", n, s)
				}
				if p, ok := Top(n); p != 0 || ok {
					t.Errorf("Top(%v): %d, %v", n, p, ok)
				}
				for _, m := range append(good, n) {
					if Cmp(n, m) != 0 || Cmp(m, n) != 0 || Same(n, m) || Same(m, n) {
						t.Errorf("something is told of %v and %v", n, m)
					}
				}
			}
		}
	}
}

func TestEdgesOfEachFormat(t *testing.T) {
	for _, k := range kinds {
		for _, e := range edges(k) {
			for _, neg := range both {
				if neg {
					e.w, e.value.Neg, e.unpacked.Neg = minus(k, e.w), true, true
				}
				if n, ok := Value(k.f, e.w); n != e.value || !ok {
					t.Errorf("Value(%d, %x): %v, %v", k.f, e.w, n, ok)
				}
				if n, ok := Unpack(k.f, e.w); n != e.unpacked || !ok {
					t.Errorf("Unpack(%d, %x): %v, %v", k.f, e.w, n, ok)
				}
				for _, n := range []api.Number{e.value, e.unpacked, Short(e.value)} {
					if w, ok := Exact(k.f, n); w != e.w || !ok {
						t.Errorf("Exact(%d, %v): %x, %v", k.f, n, w, ok)
					}
				}
			}
		}
	}
}

func TestWordsOfNought(t *testing.T) {
	for _, k := range kinds {
		for _, neg := range both {
			w := api.Word{}
			if neg {
				w = minus(k, w)
			}
			want := api.Number{Neg: neg, Exp: k.least}
			if n, ok := Value(k.f, w); n != want || !ok {
				t.Errorf("Value(%d, %x): %v, %v", k.f, w, n, ok)
			}
			if n, ok := Unpack(k.f, w); n != (api.Number{}) || ok {
				t.Errorf("Unpack(%d, %x): %v, %v", k.f, w, n, ok)
			}
			for _, exp := range []int{k.least, 0, 1, -1, edge, -edge, k.most + 1, k.least - 1} {
				if got, ok := Exact(k.f, api.Number{Neg: neg, Exp: exp}); got != w || !ok {
					t.Errorf("Exact(%d, 0 with %v and %d): %x, %v", k.f, neg, exp, got, ok)
				}
			}
		}
	}
}

func TestWordsThatStandForNoNumber(t *testing.T) {
	silent := func(f int, w api.Word) {
		t.Helper()
		if n, ok := Value(f, w); n != (api.Number{}) || ok {
			t.Errorf("Value(%d, %x): %v, %v", f, w, n, ok)
		}
		if n, ok := Unpack(f, w); n != (api.Number{}) || ok {
			t.Errorf("Unpack(%d, %x): %v, %v", f, w, n, ok)
		}
	}
	for _, k := range kinds {
		for _, w := range noNumbers(k) {
			silent(k.f, w)
		}
		for n := k.bits; n < 128; n++ { // words with too many bits
			for _, lo := range []int64{0, 1, 0x3c00, 0x7c00, 0x8001} {
				silent(k.f, wordOf(new(big.Int).Add(power(n), big.NewInt(lo))))
			}
		}
	}
	for _, f := range others {
		for _, w := range []api.Word{{}, {Lo: 1}, {Lo: 0x3c00}, {Lo: 0x8000}, {Lo: 0x3f800000}, {Hi: 0x3fff000000000000}, {Hi: top, Lo: top}} {
			silent(f, w)
		}
		for _, n := range []api.Number{{}, {Neg: true}, {Sig: api.Wide{1}}, {Neg: true, Exp: -3, Sig: api.Wide{1025}}, {Exp: edge, Sig: full}} {
			if w, ok := Exact(f, n); w != (api.Word{}) || ok {
				t.Errorf("Exact(%d, %v): %x, %v", f, n, w, ok)
			}
		}
	}
}

// held holds a finite word's numbers against the number that it stands for, as a machine's float that is known otherwise.
func held(t *testing.T, k kind, w api.Word, x float64) {
	t.Helper()
	want, _ := new(big.Float).SetFloat64(x).Rat(nil)
	if x == 0 {
		want = new(big.Rat)
	}
	told := func(n api.Number) *big.Rat {
		z := new(big.Rat).SetFrac(new(big.Int).Lsh(toBig(n.Sig), 2000), power(2000-n.Exp))
		if n.Neg {
			z.Neg(z)
		}
		return z
	}
	n, ok := Value(k.f, w)
	if !ok || told(n).Cmp(want) != 0 || n.Neg != math.Signbit(x) || toBig(n.Sig).BitLen() > k.prec {
		t.Errorf("Value(%d, %x): %v, %v", k.f, w, n, ok)
	}
	if back, ok := Exact(k.f, n); back != w || !ok {
		t.Errorf("%x of %d, back from its number: %x, %v", w, k.f, back, ok)
	}
	u, ok := Unpack(k.f, w)
	if ok != (x != 0) {
		t.Errorf("Unpack(%d, %x): %v, %v", k.f, w, u, ok)
	}
	if ok && (told(u).Cmp(want) != 0 || u.Neg != n.Neg || toBig(u.Sig).BitLen() != k.prec) {
		t.Errorf("Unpack(%d, %x): %v", k.f, w, u)
	}
	if back, is := Exact(k.f, u); ok && (back != w || !is) {
		t.Errorf("%x of %d, back from its number, unpacked: %x, %v", w, k.f, back, is)
	}
}

// half is what a word of binary16 stands for.
func half(w uint64) float64 {
	field, x := int(w>>10&31), float64(w&1023)
	if field != 0 {
		x += 1024
		field--
	}
	x = math.Ldexp(x, field-24)
	if w>>15 == 1 {
		return -x
	}
	return x
}

func TestAllWordsOfBinary16(t *testing.T) {
	for w := range uint64(1 << 16) {
		if w>>10&31 != 31 {
			held(t, kinds[0], api.Word{Lo: w}, half(w))
		}
	}
}

func TestWordsOfTheMachinesFloats(t *testing.T) {
	mix := uint64(0x0123456789abcdef)
	for i := range 6000 {
		mix = mix*6364136223846793005 + 1442695040888963407
		bits := mix ^ mix>>29
		if i%3 == 0 { // subnormal ones of all lengths, too
			bits = bits&(1<<63) | bits&(1<<52-1)>>(i%52)
		}
		if x := math.Float64frombits(bits); !math.IsInf(x, 0) && !math.IsNaN(x) {
			held(t, kinds[2], api.Word{Lo: bits}, x)
		}
		if i%3 == 0 {
			bits = bits&(1<<31) | bits&(1<<23-1)>>(i%23)
		}
		if x := math.Float32frombits(uint32(bits)); !math.IsInf(float64(x), 0) && x == x {
			held(t, kinds[1], api.Word{Lo: bits & 0xffffffff}, float64(x))
		}
	}
}

func TestWordsOfBinary128(t *testing.T) {
	k := kinds[3]
	mix := uint64(0x0123456789abcdef)
	next := func() uint64 {
		mix = mix*6364136223846793005 + 1442695040888963407
		return mix ^ mix>>29
	}
	for i := range 2000 {
		w := api.Word{Hi: next(), Lo: next()}
		if i%4 == 0 { // subnormal ones of all lengths, too
			w.Hi = w.Hi&(1<<63) | w.Hi&(1<<48-1)>>(i%49)
		}
		field, sig := int(w.Hi>>48&0x7fff), api.Wide{w.Lo, w.Hi & 0xffffffffffff}
		if field == 0x7fff || field == 0 && sig == (api.Wide{}) {
			continue
		}
		exp := -16494
		if field > 0 {
			sig[1] |= 1 << 48
			exp += field - 1
		}
		want := api.Number{Neg: w.Hi>>63 == 1, Exp: exp, Sig: sig}
		if n, ok := Value(k.f, w); n != want || !ok {
			t.Errorf("Value(4, %x): %v, %v", w, n, ok)
		}
		by := 113 - toBig(sig).BitLen()
		u := api.Number{Neg: want.Neg, Exp: exp - by, Sig: fromBig(new(big.Int).Lsh(toBig(sig), uint(by)))}
		if n, ok := Unpack(k.f, w); n != u || !ok {
			t.Errorf("Unpack(4, %x): %v, %v", w, n, ok)
		}
		for _, n := range []api.Number{want, u} {
			if back, ok := Exact(k.f, n); back != w || !ok {
				t.Errorf("Exact(4, %v): %x, not %x", n, back, w)
			}
		}
	}
}

// TestExactOfAllNear holds Exact for binary16 against what each of its words stands for.
func TestExactOfAllNear(t *testing.T) {
	words := map[float64]uint64{}
	for w := range uint64(0x7c00) {
		words[half(w)] = w
	}
	for sig := uint64(1); sig < 4200; sig++ {
		for exp := -40; exp < 20; exp++ {
			want, is := words[math.Ldexp(float64(sig), exp)]
			for _, neg := range both {
				w := api.Word{Lo: want}
				if neg && is {
					w.Lo |= 1 << 15
				}
				if got, ok := Exact(api.F16, api.Number{Neg: neg, Exp: exp, Sig: api.Wide{sig}}); got != w || ok != is {
					t.Errorf("Exact(1, %d times 2^%d, %v): %x, %v", sig, exp, neg, got, ok)
				}
			}
		}
	}
}

// shifted are numbers that are as much, told by other digits, as far as a wide has room.
func shifted(z *big.Int, exp int) []api.Number {
	var l []api.Number
	for _, by := range []int{0, 1, 2, 63, 64, 65, 200, 512 - z.BitLen()} {
		if by <= 512-z.BitLen() {
			l = append(l, api.Number{Exp: exp - by, Sig: fromBig(new(big.Int).Lsh(z, uint(by)))})
		}
	}
	return l
}

func TestExactOfWhatAFormatJustHas(t *testing.T) {
	for _, k := range kinds {
		p := k.prec
		for _, e := range edges(k) {
			for _, n := range shifted(toBig(e.value.Sig), e.value.Exp) {
				if w, ok := Exact(k.f, n); w != e.w || !ok {
					t.Errorf("Exact(%d, %v): %x, %v", k.f, n, w, ok)
				}
				n.Neg = true
				if w, ok := Exact(k.f, n); w != minus(k, e.w) || !ok {
					t.Errorf("Exact(%d, %v): %x, %v", k.f, n, w, ok)
				}
			}
		}
		odd := func(n int) *big.Int { return new(big.Int).Add(power(n), big.NewInt(1)) }
		without := []struct {
			z   *big.Int
			exp int
		}{
			{odd(p), 0}, {ones(p + 1), 0}, {odd(p), -p}, {odd(511), 0}, {ones(512), 0}, {ones(512), -511}, // one digit too many, and far more
			{odd(p), k.least}, {odd(p - 1), k.least - 1}, {ones(p), k.least - 1}, {odd(1), k.least - 1}, {odd(2), k.least - 2},
			{big.NewInt(1), k.most + 1}, {power(511), k.most - 510}, {ones(p), k.most - p + 2}, {ones(p + 1), k.most - p}, {power(p), k.most - p + 1}, {big.NewInt(1), edge}, {ones(512), edge}, // too great
			{big.NewInt(1), k.least - 1}, {power(511), k.least - 512}, {power(511), -edge}, {ones(512), -edge}, {big.NewInt(1), -edge}, // too small
		}
		for _, c := range without {
			for _, n := range shifted(c.z, c.exp) {
				if !Right(n) {
					continue
				}
				for _, neg := range both {
					n.Neg = neg
					if w, ok := Exact(k.f, n); w != (api.Word{}) || ok {
						t.Errorf("Exact(%d, %v): %x, %v", k.f, n, w, ok)
					}
				}
			}
		}
	}
}

func TestCmpAndSame(t *testing.T) {
	l := numbers()
	exact := make([]*big.Int, len(l))
	for i, n := range l {
		exact[i] = scaled(n)
	}
	for i, a := range l {
		for j, b := range l {
			want := exact[i].Cmp(exact[j])
			if got := Cmp(a, b); got != want {
				t.Errorf("Cmp(%v, %v): %d", a, b, got)
			}
			if got := Same(a, b); got != (want == 0 && a.Neg == b.Neg) {
				t.Errorf("Same(%v, %v): %v", a, b, got)
			}
		}
	}
}

func TestNoughtsAgainstEachOther(t *testing.T) {
	exps := []int{-edge, -1, 0, 1, 9, edge}
	for _, x := range exps {
		for _, y := range exps {
			for _, neg := range both {
				a, b := api.Number{Neg: neg, Exp: x}, api.Number{Neg: neg, Exp: y}
				other := api.Number{Neg: !neg, Exp: y}
				if Cmp(a, b) != 0 || Cmp(a, other) != 0 || !Same(a, b) || Same(a, other) {
					t.Errorf("%v against %v, and against %v", a, b, other)
				}
				least := api.Number{Exp: -edge, Sig: api.Wide{1}}
				below := api.Number{Neg: true, Exp: -edge, Sig: api.Wide{1}}
				if Cmp(a, least) != -1 || Cmp(least, a) != 1 || Cmp(a, below) != 1 || Cmp(below, a) != -1 || Same(a, least) || Same(a, below) {
					t.Errorf("%v against the least numbers", a)
				}
			}
		}
	}
}

func TestShortAndTop(t *testing.T) {
	for _, n := range numbers() {
		z := toBig(n.Sig)
		want, place, some := api.Number{Neg: n.Neg}, 0, z.Sign() != 0
		if some {
			zeros := z.TrailingZeroBits()
			want.Exp, want.Sig = n.Exp+int(zeros), fromBig(new(big.Int).Rsh(z, zeros))
			place = n.Exp + z.BitLen() - 1
		}
		if got := Short(n); got != want {
			t.Errorf("Short(%v): %v", n, got)
		}
		if p, ok := Top(n); p != place || ok != some {
			t.Errorf("Top(%v): %d, %v", n, p, ok)
		}
	}
	// What is told so may have an Exp that a right number has not.
	if got := Short(api.Number{Neg: true, Exp: edge, Sig: api.Wide{7: 1 << 63}}); got != (api.Number{Neg: true, Exp: edge + 511, Sig: api.Wide{1}}) {
		t.Errorf("Short of 2^511 with the greatest Exp: %v", got)
	}
	if p, ok := Top(api.Number{Exp: edge, Sig: full}); p != edge+511 || !ok {
		t.Errorf("Top of all ones with the greatest Exp: %d, %v", p, ok)
	}
}

func TestExamples(t *testing.T) {
	if n, ok := Value(api.F16, api.Word{Lo: 0x3c01}); n != (api.Number{Exp: -10, Sig: api.Wide{1025}}) || !ok {
		t.Error("3c01", n, ok)
	}
	if n, ok := Value(api.F16, api.Word{Lo: 1}); n != (api.Number{Exp: -24, Sig: api.Wide{1}}) || !ok {
		t.Error("0001", n, ok)
	}
	if n, ok := Unpack(api.F16, api.Word{Lo: 1}); n != (api.Number{Exp: -34, Sig: api.Wide{1024}}) || !ok {
		t.Error("0001, unpacked", n, ok)
	}
}
