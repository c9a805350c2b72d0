package class

import (
	"math"
	"math/big"
	"slices"
	"testing"

	"radicand/api"
	"radicand/wide"
)

const top = math.MaxUint64

// others are numbers of no format: those beside the first and the last, below 0, far above, and such as are a format's if their upper bits are lost.
var others = []int{0, 5, 6, 7, 16, 32, 64, 128, -1, -2, -3, -4, -5, 1<<8 + 1, 1<<16 + 2, 1<<32 + 3, 1<<40 + 4, 1<<62 + 1, math.MaxInt32, math.MinInt32, math.MaxInt, math.MinInt, math.MinInt + 4}

// kinds are the formats: how many bits a word, its field and its fraction have.
var kinds = []struct{ f, bits, field, fraction int }{{api.F16, 16, 5, 10}, {api.F32, 32, 8, 23}, {api.F64, 64, 11, 52}, {api.F128, 128, 15, 112}}

// span is the first and the last word of a class, without a sign.
type span struct {
	class       int
	first, last api.Word
}

func low(class int, first, last uint64) span {
	return span{class, api.Word{Lo: first}, api.Word{Lo: last}}
}

// spans are all classes of each format, in the order of the words.
var spans = map[int][]span{
	api.F16: {low(api.Nought, 0, 0), low(api.Subnormal, 0x0001, 0x03ff), low(api.Normal, 0x0400, 0x7bff), low(api.Infinite, 0x7c00, 0x7c00),
		low(api.Signaling, 0x7c01, 0x7dff), low(api.Quiet, 0x7e00, 0x7fff)},
	api.F32: {low(api.Nought, 0, 0), low(api.Subnormal, 0x00000001, 0x007fffff), low(api.Normal, 0x00800000, 0x7f7fffff), low(api.Infinite, 0x7f800000, 0x7f800000),
		low(api.Signaling, 0x7f800001, 0x7fbfffff), low(api.Quiet, 0x7fc00000, 0x7fffffff)},
	api.F64: {low(api.Nought, 0, 0), low(api.Subnormal, 1, 0x000fffffffffffff), low(api.Normal, 0x0010000000000000, 0x7fefffffffffffff),
		low(api.Infinite, 0x7ff0000000000000, 0x7ff0000000000000), low(api.Signaling, 0x7ff0000000000001, 0x7ff7ffffffffffff), low(api.Quiet, 0x7ff8000000000000, 0x7fffffffffffffff)},
	api.F128: {low(api.Nought, 0, 0), {api.Subnormal, api.Word{Lo: 1}, api.Word{Hi: 0x0000ffffffffffff, Lo: top}},
		{api.Normal, api.Word{Hi: 0x0001000000000000}, api.Word{Hi: 0x7ffeffffffffffff, Lo: top}}, {api.Infinite, api.Word{Hi: 0x7fff000000000000}, api.Word{Hi: 0x7fff000000000000}},
		{api.Signaling, api.Word{Hi: 0x7fff000000000000, Lo: 1}, api.Word{Hi: 0x7fff7fffffffffff, Lo: top}}, {api.Quiet, api.Word{Hi: 0x7fff800000000000}, api.Word{Hi: 0x7fffffffffffffff, Lo: top}}},
}

// flipped is a word with one bit the other way.
func flipped(w api.Word, n int) api.Word {
	if n >= 64 {
		w.Hi ^= 1 << (n - 64)
	} else {
		w.Lo ^= 1 << n
	}
	return w
}

func toBig(w api.Word) *big.Int {
	z := new(big.Int).SetUint64(w.Hi)
	return z.Lsh(z, 64).Or(z, new(big.Int).SetUint64(w.Lo))
}

func toWord(z *big.Int) api.Word {
	return api.Word{Hi: new(big.Int).Rsh(z, 64).Uint64(), Lo: new(big.Int).And(z, new(big.Int).SetUint64(top)).Uint64()}
}

// samples are words of a format: the edges of its classes, their neighbours, each bit, and mixed ones; with a sign and without.
func samples(f, bits int) []api.Word {
	var l []api.Word
	for _, s := range spans[f] {
		l = append(l, s.first, s.last)
		for n := range bits - 1 {
			l = append(l, flipped(s.first, n), flipped(s.last, n))
		}
	}
	mix := uint64(0x0123456789abcdef)
	for range 300 {
		var w api.Word
		for _, half := range []*uint64{&w.Hi, &w.Lo} {
			mix = mix*6364136223846793005 + 1442695040888963407
			*half = mix ^ mix>>29
		}
		l = append(l, toWord(new(big.Int).Rsh(toBig(w), uint(129-bits))))
	}
	for _, w := range slices.Clone(l) {
		l = append(l, flipped(w, bits-1))
	}
	return l
}

// strangers are words that have too many bits for a format.
func strangers(bits int) []api.Word {
	var l []api.Word
	for n := bits; n < 128; n++ {
		for _, w := range []api.Word{{}, {Lo: 1}, {Lo: 0x3c00}, {Lo: 0x7c01}, {Lo: 0xffff}} {
			l = append(l, flipped(w, n))
		}
	}
	if bits < 128 {
		l = append(l, api.Word{Hi: top, Lo: top}, api.Word{Hi: 1}, api.Word{Hi: 0x7fff000000000000, Lo: 1})
	}
	return l
}

// classOf is what the spans tell.
func classOf(f, bits int, w api.Word) int {
	z := toBig(w)
	z.SetBit(z, bits-1, 0)
	for _, s := range spans[f] {
		if z.Cmp(toBig(s.first)) >= 0 && z.Cmp(toBig(s.last)) <= 0 {
			return s.class
		}
	}
	return 0
}

func TestFirstAndLastOfEachClass(t *testing.T) {
	for _, k := range kinds {
		for _, s := range spans[k.f] {
			for _, w := range []api.Word{s.first, s.last, flipped(s.first, k.bits-1), flipped(s.last, k.bits-1)} {
				if got := Of(k.f, w); got != s.class {
					t.Errorf("Of(%d, %x): %d, not %d", k.f, w, got, s.class)
				}
			}
		}
	}
}

// held holds all that is told of one word against its bits, and against the spans.
func held(t *testing.T, f, bits, fieldBits, fractionBits int, w api.Word) {
	t.Helper()
	z := toBig(w)
	neg := z.Bit(bits-1) == 1
	fraction := new(big.Int).Mod(z, new(big.Int).Lsh(big.NewInt(1), uint(fractionBits)))
	field := new(big.Int).Rsh(new(big.Int).SetBit(z, bits-1, 0), uint(fractionBits))
	if field.BitLen() > fieldBits {
		t.Fatalf("%x is no word of %d", w, f)
	}
	want := classOf(f, bits, w)
	if got := Of(f, w); got != want || want == 0 {
		t.Errorf("Of(%d, %x): %d, not %d", f, w, got, want)
	}
	if Neg(f, w) != neg {
		t.Errorf("Neg(%d, %x): %v", f, w, !neg)
	}
	if got := Field(f, w); int64(got) != field.Int64() {
		t.Errorf("Field(%d, %x): %d", f, w, got)
	}
	if got := Fraction(f, w); got != wide.From(toWord(fraction)) {
		t.Errorf("Fraction(%d, %x): %x", f, w, got)
	}
	if got := Finite(f, w); got != (want == api.Normal || want == api.Subnormal || want == api.Nought) {
		t.Errorf("Finite(%d, %x): %v", f, w, got)
	}
	if got := IsNaN(f, w); got != (want == api.Signaling || want == api.Quiet) {
		t.Errorf("IsNaN(%d, %x): %v", f, w, got)
	}
	other := flipped(w, bits-1)
	if got := Flip(f, w); got != other {
		t.Errorf("Flip(%d, %x): %x", f, w, got)
	}
	plain := w
	if neg {
		plain = other
	}
	if got := Abs(f, w); got != plain {
		t.Errorf("Abs(%d, %x): %x", f, w, got)
	}
	if got, ok := Make(f, Neg(f, w), Field(f, w), Fraction(f, w)); got != w || !ok {
		t.Errorf("%x of %d, made of its parts: %x, %v", w, f, got, ok)
	}
}

func TestWhatIsToldOfAWord(t *testing.T) {
	for _, k := range kinds {
		for _, w := range samples(k.f, k.bits) {
			held(t, k.f, k.bits, k.field, k.fraction, w)
		}
	}
}

func TestAllWordsOfBinary16(t *testing.T) {
	for lo := range uint64(1 << 16) {
		held(t, api.F16, 16, 5, 10, api.Word{Lo: lo})
	}
}

// silent is whether of a word that isn't the format's nothing is told.
func silent(t *testing.T, f int, w api.Word) {
	t.Helper()
	if Of(f, w) != 0 || Neg(f, w) || Field(f, w) != 0 || Fraction(f, w) != (api.Wide{}) || Finite(f, w) || IsNaN(f, w) || Abs(f, w) != (api.Word{}) || Flip(f, w) != (api.Word{}) {
		t.Errorf("something is told of %x, which is no word of %d", w, f)
	}
}

func TestWordsOfOthers(t *testing.T) {
	for _, k := range kinds {
		for _, w := range strangers(k.bits) {
			silent(t, k.f, w)
		}
	}
	for _, f := range others {
		for _, w := range []api.Word{{}, {Lo: 1}, {Lo: 0x3c00}, {Lo: 0x8000}, {Lo: 0x7c01}, {Hi: 1 << 63}, {Hi: top, Lo: top}} {
			silent(t, f, w)
		}
	}
}

func TestMake(t *testing.T) {
	for _, k := range kinds {
		ones := 1<<k.field - 1
		for _, field := range []int{0, 1, 2, ones / 2, ones - 1, ones} {
			for _, fraction := range []api.Wide{{}, {1}, {2}, wide.Power(k.fraction - 1), wide.Mask(k.fraction - 1), wide.Mask(k.fraction)} {
				z := new(big.Int).Lsh(big.NewInt(int64(field)), uint(k.fraction))
				z.Or(z, toBig(wide.Low(fraction)))
				plain := toWord(z)
				if got, ok := Make(k.f, false, field, fraction); got != plain || !ok {
					t.Errorf("Make(%d, false, %d, %x): %x, %v", k.f, field, fraction, got, ok)
				}
				if got, ok := Make(k.f, true, field, fraction); got != flipped(plain, k.bits-1) || !ok {
					t.Errorf("Make(%d, true, %d, %x): %x, %v", k.f, field, fraction, got, ok)
				}
			}
		}
	}
}

// refused is whether no word is made, of either sign.
func refused(t *testing.T, f, field int, fraction api.Wide) {
	t.Helper()
	for _, neg := range []bool{false, true} {
		if got, ok := Make(f, neg, field, fraction); got != (api.Word{}) || ok {
			t.Errorf("Make(%d, %v, %d, %x): %x, %v", f, neg, field, fraction, got, ok)
		}
	}
}

func TestMakeOfTooMuch(t *testing.T) {
	for _, k := range kinds {
		ones := 1<<k.field - 1
		for _, fraction := range []api.Wide{{}, {1}, wide.Mask(k.fraction)} {
			for _, field := range []int{-1, -2, -ones, -ones - 1, ones + 1, ones + 2, 2 * ones, 2*ones + 1, 1 << 16, 1 << 32, 1 << 62, math.MaxInt, math.MinInt, math.MinInt + 1, math.MinInt32} {
				refused(t, k.f, field, fraction)
			}
		}
		for _, field := range []int{0, 1, ones, -1, ones + 1} {
			for n := k.fraction; n < 512; n++ {
				refused(t, k.f, field, wide.Power(n))
			}
			refused(t, k.f, field, wide.Mask(k.fraction+1))
			refused(t, k.f, field, wide.Mask(512))
		}
	}
	for _, f := range others {
		for _, field := range []int{0, 1, 31, -1, math.MaxInt} {
			for _, fraction := range []api.Wide{{}, {1}, wide.Mask(512)} {
				refused(t, f, field, fraction)
			}
		}
	}
}

func TestCount(t *testing.T) {
	for _, k := range kinds {
		if n := Count(k.f); n != [7]int{} {
			t.Errorf("Count of no words: %v", n)
		}
		if n := Count(k.f, []api.Word{}...); n != [7]int{} {
			t.Errorf("Count of a list of none: %v", n)
		}
		l := append(samples(k.f, k.bits), strangers(k.bits)...)
		var want [7]int
		for i, w := range l {
			c := 0
			if toBig(w).BitLen() <= k.bits {
				c = classOf(k.f, k.bits, w)
			}
			want[c]++
			if i < 40 { // one by one, too
				alone := [7]int{}
				alone[c] = 2
				if n := Count(k.f, w, w); n != alone {
					t.Errorf("Count(%d, %x twice): %v", k.f, w, n)
				}
			}
		}
		kept := slices.Clone(l)
		if n := Count(k.f, l...); n != want {
			t.Errorf("Count of %d words of %d: %v, not %v", len(l), k.f, n, want)
		}
		if !slices.Equal(l, kept) {
			t.Error("Count changed what it was handed")
		}
	}
	for _, f := range others {
		if n := Count(f, api.Word{}, api.Word{Lo: 0x7c01}, api.Word{Hi: top, Lo: top}); n != [7]int{3} {
			t.Errorf("Count by %d, which is no format: %v", f, n)
		}
		if n := Count(f); n != [7]int{} {
			t.Errorf("Count of no words by %d, which is no format: %v", f, n)
		}
	}
}

func TestExamples(t *testing.T) {
	for lo, want := range map[uint64]int{0x7c01: api.Signaling, 0x7e00: api.Quiet, 0x0001: api.Subnormal} {
		if got := Of(api.F16, api.Word{Lo: lo}); got != want {
			t.Errorf("%04x of binary16: %d", lo, got)
		}
	}
}
