package nan

import (
	"math"
	"math/big"
	"slices"
	"testing"

	"radicand/api"
	"radicand/class"
)

const top = math.MaxUint64

// others are numbers of no format: those beside the first and the last, below 0, far above, and such as are a format's if their upper bits are lost.
var others = []int{0, 5, 6, 16, 32, 64, 128, -1, -2, -3, -4, -5, 1<<8 + 1, 1<<16 + 2, 1<<32 + 3, 1<<40 + 4, 1<<62 + 1, math.MaxInt32, math.MinInt32, math.MaxInt, math.MinInt, math.MinInt + 4}

// kind is a format: how many bits a word and its payload have; and its own NaN.
type kind struct {
	f, bits, payload int
	own              api.Word
}

var kinds = []kind{{api.F16, 16, 9, api.Word{Lo: 0x7e00}}, {api.F32, 32, 22, api.Word{Lo: 0x7fc00000}}, {api.F64, 64, 51, api.Word{Lo: 0x7ff8000000000000}}, {api.F128, 128, 111, api.Word{Hi: 0x7fff800000000000}}}

var both = []bool{false, true}

// set is a word with one bit the other way.
func set(w api.Word, n int) api.Word {
	if n >= 64 {
		w.Hi ^= 1 << (n - 64)
	} else {
		w.Lo ^= 1 << n
	}
	return w
}

func wideOf(z *big.Int) api.Wide {
	var w api.Wide
	z = new(big.Int).Set(z)
	for i := range w {
		w[i] = new(big.Int).And(z, new(big.Int).SetUint64(top)).Uint64()
		z.Rsh(z, 64)
	}
	return w
}

// payloads are those of a format: 0, the greatest one, each digit alone, and mixed ones.
func payloads(k kind) []api.Wide {
	one := big.NewInt(1)
	ones := new(big.Int).Sub(new(big.Int).Lsh(one, uint(k.payload)), one)
	l := []api.Wide{{}, wideOf(ones), wideOf(new(big.Int).Sub(ones, one))}
	for n := range k.payload {
		l = append(l, wideOf(new(big.Int).Lsh(one, uint(n))))
	}
	mix := uint64(0x0123456789abcdef)
	for range 50 {
		z := new(big.Int)
		for range 2 {
			mix = mix*6364136223846793005 + 1442695040888963407
			z.Lsh(z, 64).Or(z, new(big.Int).SetUint64(mix^mix>>29))
		}
		l = append(l, wideOf(z.And(z, ones)))
	}
	return l
}

// quiet is a format's Quiet word of a sign and a payload.
func quiet(k kind, neg bool, payload api.Wide) api.Word {
	w := api.Word{Hi: k.own.Hi | payload[1], Lo: k.own.Lo | payload[0]}
	if neg {
		w = set(w, k.bits-1)
	}
	return w
}

// signaling is the word that is quieted to it; of a payload of 0 that is none, but infinite.
func signaling(k kind, neg bool, payload api.Wide) api.Word {
	return set(quiet(k, neg, payload), k.payload)
}

// plain are words of a format that are no NaNs: of each other class the least and the greatest, and 1.
func plain(k kind) []api.Word {
	inf := set(k.own, k.payload)
	below := func(w api.Word) api.Word { // the word ahead of another one
		if w.Lo == 0 {
			w.Hi--
		}
		w.Lo--
		return w
	}
	normal := set(api.Word{}, k.payload+1)
	one := set(below(inf), k.bits-2) // not just 1, but near it
	var l []api.Word
	for _, w := range []api.Word{{}, {Lo: 1}, below(normal), normal, one, below(inf), inf} {
		l = append(l, w, set(w, k.bits-1))
	}
	return l
}

// tooLong are words with digits above a format's bits.
func tooLong(k kind) []api.Word {
	var l []api.Word
	for n := k.bits; n < 128; n++ {
		l = append(l, set(api.Word{}, n), set(k.own, n), set(signaling(k, true, api.Wide{1}), n))
	}
	if k.bits < 128 {
		l = append(l, api.Word{Hi: top, Lo: top})
	}
	return l
}

// strange are words that no number's are, of formats that are none.
var strange = []api.Word{{}, {Lo: 1}, {Lo: 0x7c01}, {Lo: 0x7e00}, {Lo: 0x7f800001}, {Lo: 0x7ff0000000000001}, {Hi: 0x7fff000000000000, Lo: 1}, {Hi: 0x7fff800000000000}, {Hi: top, Lo: top}}

// untouched is whether of a word that is no NaN of the format's nothing is told, and it stays as it is.
func untouched(t *testing.T, f int, w api.Word) {
	t.Helper()
	if got := Quieted(f, w); got != w {
		t.Errorf("Quieted(%d, %x): %x", f, w, got)
	}
	if p, ok := Payload(f, w); p != (api.Wide{}) || ok {
		t.Errorf("Payload(%d, %x): %x, %v", f, w, p, ok)
	}
	if got, flags, ok := Of(f, w, w); got != (api.Word{}) || flags != 0 || ok {
		t.Errorf("Of(%d, %x twice): %x, %d, %v", f, w, got, flags, ok)
	}
}

func TestWordsThatAreNoNaNs(t *testing.T) {
	for _, k := range kinds {
		for _, w := range append(plain(k), tooLong(k)...) {
			untouched(t, k.f, w)
		}
	}
	for _, f := range others {
		for _, w := range strange {
			untouched(t, f, w)
		}
	}
}

// carries is whether a NaN is quieted to that word, and has that payload.
func carries(t *testing.T, k kind, w, want api.Word, payload api.Wide) {
	t.Helper()
	if got := Quieted(k.f, w); got != want || class.Of(k.f, got) != api.Quiet {
		t.Errorf("Quieted(%d, %x): %x", k.f, w, got)
	}
	for _, w := range []api.Word{w, Quieted(k.f, w)} {
		if got, ok := Payload(k.f, w); got != payload || !ok {
			t.Errorf("Payload(%d, %x): %x, %v", k.f, w, got, ok)
		}
	}
	flags := 0
	if w != want {
		flags = api.Invalid
	}
	if got, told, ok := Of(k.f, w); got != want || told != flags || !ok {
		t.Errorf("Of(%d, %x): %x, %d, %v", k.f, w, got, told, ok)
	}
}

func TestWhatIsQuietedCarriesTheSame(t *testing.T) {
	for _, k := range kinds {
		for _, neg := range both {
			for _, payload := range payloads(k) {
				want := quiet(k, neg, payload)
				if got, ok := With(k.f, neg, payload); got != want || !ok {
					t.Errorf("With(%d, %v, %x): %x, %v", k.f, neg, payload, got, ok)
				}
				carries(t, k, want, want, payload)
				if payload != (api.Wide{}) {
					carries(t, k, signaling(k, neg, payload), want, payload)
				}
			}
		}
	}
}

func TestAllWordsOfBinary16(t *testing.T) {
	for lo := range uint64(1 << 16) {
		w := api.Word{Lo: lo}
		if lo&0x7fff <= 0x7c00 {
			untouched(t, api.F16, w)
		} else {
			carries(t, kinds[0], w, api.Word{Lo: lo | 0x0200}, api.Wide{lo & 0x01ff})
		}
	}
}

func TestWithTooMuch(t *testing.T) {
	refused := func(f int, payload api.Wide) {
		t.Helper()
		for _, neg := range both {
			if w, ok := With(f, neg, payload); w != (api.Word{}) || ok {
				t.Errorf("With(%d, %v, %x): %x, %v", f, neg, payload, w, ok)
			}
		}
	}
	for _, k := range kinds {
		for n := k.payload; n < 512; n++ {
			z := new(big.Int).Lsh(big.NewInt(1), uint(n))
			refused(k.f, wideOf(z))
			refused(k.f, wideOf(z.SetBit(z, 0, 1)))
		}
		refused(k.f, api.Wide{top, top, top, top, top, top, top, top})
	}
	for _, f := range others {
		for _, payload := range []api.Wide{{}, {1}, {7: 1 << 63}} {
			refused(f, payload)
		}
	}
}

func TestNone(t *testing.T) {
	for _, k := range kinds {
		if w, flags := None(k.f); w != k.own || flags != api.Invalid {
			t.Errorf("None(%d): %x, %d", k.f, w, flags)
		}
	}
	for _, f := range others {
		if w, flags := None(f); w != (api.Word{}) || flags != 0 {
			t.Errorf("None(%d): %x, %d", f, w, flags)
		}
	}
}

// TestWhatComesOfWords goes through all lists of up to four words, each no NaN, a Quiet one or a Signaling one, of its own payload.
func TestWhatComesOfWords(t *testing.T) {
	for _, k := range kinds {
		no := append(plain(k), tooLong(k)...)
		for n := range 5 {
			count := 1
			for range n {
				count *= 3
			}
			for which := range count {
				var l []api.Word
				var want api.Word
				flags, some := 0, false
				for i := range n {
					neg, payload := (which+i)%2 == 1, api.Wide{uint64(i + 1)}
					kept := quiet(k, neg, payload)
					switch which % 3 {
					case 0:
						l = append(l, no[(which+7*i)%len(no)])
						which /= 3
						continue
					case 1:
						l = append(l, kept)
					case 2:
						l, flags = append(l, signaling(k, neg, payload)), api.Invalid
					}
					if !some {
						want, some = kept, true
					}
					which /= 3
				}
				before := slices.Clone(l)
				if w, told, ok := Of(k.f, l...); w != want || told != flags || ok != some {
					t.Errorf("Of(%d, %x): %x, %d, %v, not %x, %d", k.f, l, w, told, ok, want, flags)
				}
				if !slices.Equal(l, before) {
					t.Errorf("Of(%d, %x) changed that to %x", k.f, before, l)
				}
			}
		}
	}
}

func TestOfManyWords(t *testing.T) {
	for _, k := range kinds {
		l := slices.Repeat(plain(k), 200)
		if w, flags, ok := Of(k.f, l...); w != (api.Word{}) || flags != 0 || ok {
			t.Errorf("Of many words of %d, none a NaN: %x, %d, %v", k.f, w, flags, ok)
		}
		first, last := quiet(k, true, api.Wide{5}), signaling(k, false, api.Wide{3})
		l[1000] = first
		if w, flags, ok := Of(k.f, l...); w != first || flags != 0 || !ok {
			t.Errorf("Of many words of %d, a Quiet one among them: %x, %d, %v", k.f, w, flags, ok)
		}
		l[len(l)-1] = last
		if w, flags, ok := Of(k.f, l...); w != first || flags != api.Invalid || !ok {
			t.Errorf("Of many words of %d, the last Signaling: %x, %d, %v", k.f, w, flags, ok)
		}
		l[0] = last
		if w, flags, ok := Of(k.f, l...); w != quiet(k, false, api.Wide{3}) || flags != api.Invalid || !ok {
			t.Errorf("Of many words of %d, the first Signaling: %x, %d, %v", k.f, w, flags, ok)
		}
	}
}

func TestOfNoWords(t *testing.T) {
	for _, f := range append(others, api.F16, api.F32, api.F64, api.F128) {
		for _, l := range [][]api.Word{nil, {}} {
			if w, flags, ok := Of(f, l...); w != (api.Word{}) || flags != 0 || ok {
				t.Errorf("Of(%d) of no words: %x, %d, %v", f, w, flags, ok)
			}
		}
	}
}

func TestExamples(t *testing.T) {
	if w, flags, ok := Of(api.F16, api.Word{Lo: 0x7c01}, api.Word{Lo: 0x7e05}); w != (api.Word{Lo: 0x7e01}) || flags != api.Invalid || !ok {
		t.Errorf("Of 7c01 and 7e05: %x, %d, %v", w, flags, ok)
	}
}
