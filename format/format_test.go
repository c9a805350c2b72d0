package format

import (
	"math"
	"strings"
	"testing"

	"radicand/api"
)

const top = math.MaxUint64

// others are numbers of no format: those beside the first and the last, below 0, far above, and such as are a format's if their upper bits are lost.
var others = []int{0, 5, 6, 7, 9, 16, 32, 64, 128, -1, -2, -3, -4, -5, 1 << 8, 1<<8 + 1, 1<<16 + 2, 1<<32 + 3, 1<<40 + 4, 1<<62 + 1, math.MaxInt32, math.MinInt32,
	math.MaxInt - 1, math.MaxInt, math.MinInt, math.MinInt + 1, math.MinInt + 4}

// kinds are the formats, as the chapter lists what they have.
var kinds = []struct {
	f    int
	name string
	has  Format
}{
	{api.F16, "binary16", Format{Bits: 16, Prec: 11, EMax: 15, EMin: -14, Field: 5}},
	{api.F32, "binary32", Format{Bits: 32, Prec: 24, EMax: 127, EMin: -126, Field: 8}},
	{api.F64, "binary64", Format{Bits: 64, Prec: 53, EMax: 1023, EMin: -1022, Field: 11}},
	{api.F128, "binary128", Format{Bits: 128, Prec: 113, EMax: 16383, EMin: -16382, Field: 15}},
}

func TestOf(t *testing.T) {
	for _, k := range kinds {
		got, ok := Of(k.f)
		if got != k.has || !ok {
			t.Errorf("Of(%d): %+v, %v", k.f, got, ok)
		}
		if got.EMin != 1-got.EMax || got.Field != got.Bits-got.Prec || got.EMax != 1<<(got.Field-1)-1 {
			t.Errorf("Of(%d): %+v doesn't go together", k.f, got)
		}
		// What was answered is the caller's own: the next answer doesn't hang on it.
		got.Bits, got.Prec, got.EMax, got.EMin, got.Field = 0, 0, 0, 0, 0
		if again, _ := Of(k.f); again != k.has {
			t.Errorf("Of(%d) again: %+v", k.f, again)
		}
	}
	for _, f := range others {
		if got, ok := Of(f); got != (Format{}) || ok {
			t.Errorf("Of(%d): %+v, %v", f, got, ok)
		}
	}
}

// bit is the word of one bit.
func bit(n int) api.Word {
	if n >= 64 {
		return api.Word{Hi: 1 << (n - 64)}
	}
	return api.Word{Lo: 1 << n}
}

// below is the word of all bits below one.
func below(n int) api.Word {
	if n >= 64 {
		return api.Word{Hi: 1<<(n-64) - 1, Lo: top}
	}
	return api.Word{Lo: 1<<n - 1}
}

func TestFits(t *testing.T) {
	for _, k := range kinds {
		if !Fits(k.f, api.Word{}) {
			t.Errorf("Fits(%d, 0)", k.f)
		}
		for n := range 128 {
			fits := n < k.has.Bits
			low := below(min(n, k.has.Bits))
			for _, w := range []api.Word{bit(n), {Hi: bit(n).Hi | low.Hi, Lo: bit(n).Lo | low.Lo}} {
				if Fits(k.f, w) != fits {
					t.Errorf("Fits(%d, %x): %v", k.f, w, !fits)
				}
			}
		}
		for n := range 129 {
			if Fits(k.f, below(n)) != (n <= k.has.Bits) {
				t.Errorf("Fits(%d, %x): %v", k.f, below(n), n > k.has.Bits)
			}
		}
	}
	for _, f := range others {
		for _, w := range []api.Word{{}, {Lo: 1}, {Hi: 1}, {Lo: 0x3c00}, {Hi: top, Lo: top}} {
			if Fits(f, w) {
				t.Errorf("Fits(%d, %x)", f, w)
			}
		}
	}
}

func TestNames(t *testing.T) {
	for _, k := range kinds {
		if s := Name(k.f); s != k.name {
			t.Errorf("Name(%d): %q", k.f, s)
		}
		if f, ok := ByName(k.name); f != k.f || !ok {
			t.Errorf("ByName(%q): %d, %v", k.name, f, ok)
		}
	}
	for _, f := range others {
		if s := Name(f); s != "" {
			t.Errorf("Name(%d): %q", f, s)
		}
	}
	texts := []string{"", " ", "binary", "binary1", "binary3", "binary6", "binary12", "binary8", "binary0", "binary-16", "binary256", "binary80", "inary16", "16", "32", "64", "128",
		"1", "2", "3", "4", "float32", "half", "f16", "F16", "b16", "binary١٦", "binary１６", "bınary16", "\x00", "\xff", "é", "binary16binary32", "binary16,binary32", "decimal64"}
	for _, k := range kinds {
		texts = append(texts, " "+k.name, k.name+" ", k.name+"\n", k.name+"\x00", k.name+"0", "x"+k.name, k.name[1:], k.name[:len(k.name)-1], strings.ToUpper(k.name),
			"B"+k.name[1:], strings.Replace(k.name, "y", "y ", 1), strings.Replace(k.name, "y", "y0", 1), strings.Repeat(k.name, 1000), k.name+"\xff", "\ufeff"+k.name)
	}
	for _, s := range texts {
		if f, ok := ByName(s); f != 0 || ok {
			t.Errorf("ByName(%.40q): %d, %v", s, f, ok)
		}
	}
}

// words are the words that are made of a format; those with a sign stand without it, and with it.
type words struct {
	inf, minusInf, nan, max, minusMax, least, one, nought, minusNought api.Word
}

// lower is of words of at most 64 bits, in the order of the fields.
func lower(l [9]uint64) words {
	w := func(i int) api.Word { return api.Word{Lo: l[i]} }
	return words{w(0), w(1), w(2), w(3), w(4), w(5), w(6), w(7), w(8)}
}

// asked are a format's words, as the program makes them.
func asked(f int) words {
	return words{Inf(f, false), Inf(f, true), NaN(f), Max(f, false), Max(f, true), Least(f), One(f), Nought(f, false), Nought(f, true)}
}

func TestWords(t *testing.T) {
	for f, want := range map[int]words{
		api.F16: lower([9]uint64{0x7c00, 0xfc00, 0x7e00, 0x7bff, 0xfbff, 0x0001, 0x3c00, 0x0000, 0x8000}),
		api.F32: lower([9]uint64{0x7f800000, 0xff800000, 0x7fc00000, 0x7f7fffff, 0xff7fffff, 0x00000001, 0x3f800000, 0x00000000, 0x80000000}),
		api.F64: lower([9]uint64{0x7ff0000000000000, 0xfff0000000000000, 0x7ff8000000000000, 0x7fefffffffffffff, 0xffefffffffffffff, 1, 0x3ff0000000000000, 0, 0x8000000000000000}),
		api.F128: {
			inf: api.Word{Hi: 0x7fff000000000000}, minusInf: api.Word{Hi: 0xffff000000000000}, nan: api.Word{Hi: 0x7fff800000000000},
			max: api.Word{Hi: 0x7ffeffffffffffff, Lo: 0xffffffffffffffff}, minusMax: api.Word{Hi: 0xfffeffffffffffff, Lo: 0xffffffffffffffff},
			least: api.Word{Lo: 1}, one: api.Word{Hi: 0x3fff000000000000}, nought: api.Word{}, minusNought: api.Word{Hi: 0x8000000000000000},
		},
	} {
		if got := asked(f); got != want {
			t.Errorf("words of %d:\n%x\n%x", f, got, want)
		}
	}
	for _, f := range others {
		if got := asked(f); got != (words{}) {
			t.Errorf("words of %d, which is no format: %x", f, got)
		}
	}
}

// The machine's own floats tell what two formats' words stand for.
func TestWordsStandForWhatTheyShould(t *testing.T) {
	single := func(w api.Word) float64 { return float64(math.Float32frombits(uint32(w.Lo))) }
	double := func(w api.Word) float64 { return math.Float64frombits(w.Lo) }
	for _, c := range []struct {
		f          int
		value      func(api.Word) float64
		max, least float64
	}{{api.F32, single, math.MaxFloat32, math.SmallestNonzeroFloat32}, {api.F64, double, math.MaxFloat64, math.SmallestNonzeroFloat64}} {
		got := asked(c.f)
		if !math.IsInf(c.value(got.inf), 1) || !math.IsInf(c.value(got.minusInf), -1) || !math.IsNaN(c.value(got.nan)) {
			t.Errorf("Inf, NaN of %d: %x", c.f, got)
		}
		if c.value(got.max) != c.max || c.value(got.minusMax) != -c.max || c.value(got.least) != c.least || c.value(got.one) != 1 {
			t.Errorf("Max, Least, One of %d: %x", c.f, got)
		}
		if c.value(got.nought) != 0 || math.Signbit(c.value(got.nought)) || c.value(got.minusNought) != 0 || !math.Signbit(c.value(got.minusNought)) {
			t.Errorf("Nought of %d: %x", c.f, got)
		}
	}
}

func TestExamples(t *testing.T) {
	if w := Inf(api.F32, true); w != (api.Word{Lo: 0xff800000}) {
		t.Errorf("Inf(F32, true): %x", w)
	}
	if w := Max(api.F16, false); w != (api.Word{Lo: 0x7bff}) {
		t.Errorf("Max(F16, false): %x", w)
	}
}
