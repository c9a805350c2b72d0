package mode

import (
	"math"
	"math/big"
	"strings"
	"testing"

	"radicand/api"
)

const top = math.MaxUint64

// modes are all of them, by their names.
var modes = []struct {
	m, mirror int
	name      string
}{{1, 1, "even"}, {2, 2, "away"}, {3, 3, "zero"}, {4, 5, "up"}, {5, 4, "down"}}

// others are numbers of no mode: those beside the first and the last, below 0, far above, and such as are a mode's if their upper bits are lost.
var others = []int{0, 6, 7, 8, 16, -1, -2, -3, -4, -5, -6, 1<<8 + 1, 1<<16 + 2, 1<<32 + 3, 1<<40 + 4, 1<<62 + 5, math.MaxInt32, math.MinInt32, math.MaxInt, math.MinInt, math.MinInt + 1, math.MinInt + 5}

// cuts are counts of digits at which a limb, or the wide, ends, and such as are no counts.
var cuts = []int{0, 1, 2, 3, 4, 5, 8, 52, 63, 64, 65, 127, 128, 129, 200, 256, 448, 500, 510, 511, 512, 513, 514, 575, 576, 1000, 1 << 16, 1<<16 + 1, 1<<32 + 1, 1 << 40, math.MaxInt - 1, math.MaxInt,
	-1, -2, -63, -64, -511, -512, -513, -1 << 16, -1<<32 + 2, math.MinInt + 1, math.MinInt}

var both = []bool{false, true}

// wholes are wides of all kinds: 0, small ones, powers of 2 with their neighbours, masks, and mixed ones.
func wholes() []api.Wide {
	full := api.Wide{top, top, top, top, top, top, top, top}
	l := []api.Wide{full, {7: 1 << 63}, {0: 1, 7: 1 << 63}, {7: 1<<63 - 1}, {7: 3 << 62}, {3: 1 << 63, 4: 1}, {1, 0, 1}, {0, 0, 6}, {top - 1, top, top, top, top, top, top, top},
		{top, top, top, top, top, top, top, top >> 1}, {top, top, top, top, top, top, top, top ^ 1<<63 ^ 1<<62}}
	for n := range uint64(34) {
		l = append(l, api.Wide{n})
	}
	for _, n := range []int{52, 63, 64, 65, 127, 128, 200, 448, 500, 509, 510, 511} {
		z := new(big.Int).Lsh(big.NewInt(1), uint(n))
		for _, d := range []int64{-1, 0, 1} {
			l = append(l, fromBig(new(big.Int).Add(z, big.NewInt(d))))
		}
	}
	mix := uint64(0x0123456789abcdef)
	for range 20 {
		var w api.Wide
		for i := range w {
			mix = mix*6364136223846793005 + 1442695040888963407
			w[i] = mix ^ mix>>29
		}
		l = append(l, w)
	}
	return l
}

func toBig(a api.Wide) *big.Int {
	z := new(big.Int)
	for i := len(a) - 1; i >= 0; i-- {
		z.Lsh(z, 64).Or(z, new(big.Int).SetUint64(a[i]))
	}
	return z
}

// fromBig is z modulo 2^512.
func fromBig(z *big.Int) api.Wide {
	var w api.Wide
	z = new(big.Int).Set(z)
	for i := range w {
		w[i] = new(big.Int).And(z, new(big.Int).SetUint64(top)).Uint64()
		z.Rsh(z, 64)
	}
	return w
}

// place is the last place that stays, in quarters of the lowest place of a wide. (Of what lies far beyond the wide nothing more is to be told than of 2000.)
func place(n int) *big.Int {
	return new(big.Int).Lsh(big.NewInt(4), uint(min(max(n, 0), 2000)))
}

// quarters is a wide in quarters of its lowest place; what is more is taken for one of these.
func quarters(sig api.Wide, more bool) *big.Int {
	z := new(big.Int).Lsh(toBig(sig), 2)
	if more {
		z.Add(z, big.NewInt(1))
	}
	return z
}

// restOf is what is cut off, by doubling it and holding it against the last place that stays.
func restOf(sig api.Wide, n int, more bool) int {
	unit := place(n)
	off := new(big.Int).Mod(quarters(sig, more), unit)
	if off.Sign() == 0 {
		return 0
	}
	return 2 + new(big.Int).Lsh(off, 1).Cmp(unit)
}

// nearest is the whole number of last places that is rounded to, by comparing how far the one below and the one above it are.
func nearest(sig api.Wide, n int, more bool, m int, neg bool) (*big.Int, bool) {
	unit, z := place(n), quarters(sig, more)
	below, off := new(big.Int).DivMod(z, unit, new(big.Int))
	above := new(big.Int).Add(below, big.NewInt(1))
	if off.Sign() == 0 {
		return below, false
	}
	toAbove := new(big.Int).Sub(unit, off)
	nearer := off.Cmp(toAbove)
	switch {
	case m == api.Zero, m == api.Up && neg, m == api.Down && !neg:
		return below, true
	case m == api.Up, m == api.Down:
		return above, true
	case nearer < 0:
		return below, true
	case nearer > 0, m == api.Away, below.Bit(0) == 1:
		return above, true
	}
	return below, true
}

func TestIsNameByName(t *testing.T) {
	for _, k := range modes {
		if !Is(k.m) || Name(k.m) != k.name {
			t.Errorf("Is, Name of %d: %v, %q", k.m, Is(k.m), Name(k.m))
		}
		if m, ok := ByName(k.name); m != k.m || !ok {
			t.Errorf("ByName(%q): %d, %v", k.name, m, ok)
		}
		wrong := []string{strings.ToUpper(k.name), strings.ToUpper(k.name[:1]) + k.name[1:], k.name + " ", " " + k.name, k.name + "\x00", k.name[:len(k.name)-1], k.name[1:], k.name + k.name}
		for _, s := range wrong {
			if m, ok := ByName(s); m != 0 || ok {
				t.Errorf("ByName(%q): %d, %v", s, m, ok)
			}
		}
	}
	for _, s := range []string{"", " ", "1", "none", "nearest", "binary16", "\xff", "\x00", strings.Repeat("even", 200)} {
		if m, ok := ByName(s); m != 0 || ok {
			t.Errorf("ByName(%q): %d, %v", s, m, ok)
		}
	}
	if api.Even != 1 || api.Away != 2 || api.Zero != 3 || api.Up != 4 || api.Down != 5 {
		t.Error("the modes' numbers")
	}
}

func TestMirror(t *testing.T) {
	for _, k := range modes {
		if Mirror(k.m) != k.mirror || Mirror(Mirror(k.m)) != k.m {
			t.Errorf("Mirror(%d): %d", k.m, Mirror(k.m))
		}
	}
}

func TestNoMode(t *testing.T) {
	for _, m := range others {
		if Is(m) || Name(m) != "" || Mirror(m) != 0 {
			t.Errorf("%d: %v, %q, %d", m, Is(m), Name(m), Mirror(m))
		}
		for _, neg := range both {
			for rest := -1; rest < 5; rest++ {
				if Grows(m, neg, false, rest) || Grows(m, neg, true, rest) {
					t.Errorf("Grows(%d, %v, .., %d)", m, neg, rest)
				}
			}
			for _, n := range []int{-1, 0, 1, 2, 511, 512, 900} {
				for _, more := range both {
					if a, is := Cut(api.Wide{7, 7: 1 << 63}, n, more, m, neg); a != (api.Wide{}) || is {
						t.Errorf("Cut by %d: %x, %v", m, a, is)
					}
				}
			}
		}
	}
}

func TestRest(t *testing.T) {
	for _, sig := range wholes() {
		for _, n := range cuts {
			for _, more := range both {
				if got, want := Rest(sig, n, more), restOf(sig, n, more); got != want {
					t.Errorf("Rest(%x, %d, %v): %d, not %d", sig, n, more, got, want)
				}
			}
		}
	}
}

func TestRestAtTheEnds(t *testing.T) {
	one, upper, full := api.Wide{1}, api.Wide{7: 1 << 63}, api.Wide{top, top, top, top, top, top, top, top}
	for _, c := range []struct {
		sig         api.Wide
		n           int
		plain, more int
	}{
		{full, math.MinInt, 0, 1}, {full, -1, 0, 1}, {full, 0, 0, 1}, {api.Wide{}, 0, 0, 1}, {api.Wide{}, 5, 0, 1}, {api.Wide{}, 512, 0, 1}, {api.Wide{}, math.MaxInt, 0, 1},
		{one, 1, 2, 3}, {one, 2, 1, 1}, {api.Wide{2}, 1, 0, 1}, {api.Wide{3}, 2, 3, 3},
		{upper, 511, 0, 1}, {upper, 512, 2, 3}, {upper, 513, 1, 1}, {full, 511, 3, 3}, {full, 512, 3, 3}, {full, 513, 1, 1}, {full, 514, 1, 1}, {full, 1 << 40, 1, 1}, {full, math.MaxInt, 1, 1},
		{one, 511, 1, 1}, {one, 512, 1, 1}, {one, 513, 1, 1}, {api.Wide{7: 1 << 62}, 511, 2, 3}, {api.Wide{7: 1 << 62}, 512, 1, 1},
	} {
		if Rest(c.sig, c.n, false) != c.plain || Rest(c.sig, c.n, true) != c.more {
			t.Errorf("Rest(%x, %d, ..): %d, with more %d", c.sig, c.n, Rest(c.sig, c.n, false), Rest(c.sig, c.n, true))
		}
	}
}

func TestGrows(t *testing.T) {
	// For each mode: by rests from none to above a half, of an even and of an odd place; where it hangs on the sign, that of numbers that aren't below 0.
	never, always := "....", ".+++"
	for _, c := range []struct {
		m                                      int
		evenPlus, oddPlus, evenMinus, oddMinus string
	}{
		{api.Even, "...+", "..++", "...+", "..++"},
		{api.Away, "..++", "..++", "..++", "..++"},
		{api.Zero, never, never, never, never},
		{api.Up, always, always, never, never},
		{api.Down, never, never, always, always},
	} {
		for i, want := range []string{c.evenPlus, c.oddPlus, c.evenMinus, c.oddMinus} {
			neg, odd := i >= 2, i%2 == 1
			for rest := range 4 {
				if Grows(c.m, neg, odd, rest) != (want[rest] == '+') {
					t.Errorf("Grows(%d, %v, %v, %d): %v", c.m, neg, odd, rest, Grows(c.m, neg, odd, rest))
				}
			}
			for _, rest := range []int{-1, -2, -3, 4, 5, 6, 7, 1<<8 + 3, 1<<32 + 2, math.MaxInt, math.MinInt, math.MinInt + 3} {
				if Grows(c.m, neg, odd, rest) {
					t.Errorf("Grows(%d, %v, %v, %d), which is no rest", c.m, neg, odd, rest)
				}
			}
		}
	}
}

func TestCut(t *testing.T) {
	for _, sig := range wholes() {
		for _, n := range cuts {
			for _, more := range both {
				for _, k := range modes {
					for _, neg := range both {
						want, cut := nearest(sig, n, more, k.m, neg)
						if got, is := Cut(sig, n, more, k.m, neg); got != fromBig(want) || is != cut {
							t.Errorf("Cut(%x, %d, %v, %d, %v): %x, %v", sig, n, more, k.m, neg, got, is)
						}
					}
				}
			}
		}
	}
}

func TestCutToTheWholeWide(t *testing.T) {
	full := api.Wide{top, top, top, top, top, top, top, top}
	for _, c := range []struct {
		m     int
		neg   bool
		grows bool
	}{{api.Up, false, true}, {api.Down, true, true}, {api.Up, true, false}, {api.Down, false, false}, {api.Zero, false, false}, {api.Even, true, false}, {api.Away, false, false}} {
		want := full
		if c.grows {
			want = api.Wide{}
		}
		for _, n := range []int{0, -1, math.MinInt} {
			if got, is := Cut(full, n, true, c.m, c.neg); got != want || !is {
				t.Errorf("Cut of all ones, %d and more, by %d, %v: %x, %v", n, c.m, c.neg, got, is)
			}
			if got, is := Cut(full, n, false, c.m, c.neg); got != full || is {
				t.Errorf("Cut of all ones, %d and no more, by %d, %v: %x, %v", n, c.m, c.neg, got, is)
			}
		}
	}
	if got, is := Cut(full, 1, false, api.Even, false); got != (api.Wide{7: 1 << 63}) || !is {
		t.Errorf("Cut of all ones by 1: %x, %v", got, is)
	}
}

func TestWithinOneAndMirrored(t *testing.T) {
	for _, sig := range wholes() {
		for _, n := range cuts {
			for _, more := range both {
				unit, z := place(n), quarters(sig, more)
				for _, k := range modes {
					plus, cut := Cut(sig, n, more, k.m, false)
					if minus, is := Cut(sig, n, more, Mirror(k.m), true); minus != plus || is != cut {
						t.Errorf("Cut(%x, %d, %v, %d), mirrored: %x, not %x", sig, n, more, k.m, minus, plus)
					}
					stays := toBig(plus)
					if stays.Sign() == 0 && n <= 0 && Grows(k.m, false, true, 1) && more && sig[0]%2 == 1 {
						stays.Lsh(big.NewInt(1), 512) // modulo 2^512 that is 0
					}
					off := stays.Mul(stays, unit)
					off.Sub(off, z)
					if off.CmpAbs(unit) >= 0 || cut != (off.Sign() != 0) {
						t.Errorf("Cut(%x, %d, %v, %d): %x is too far off", sig, n, more, k.m, plus)
					}
				}
			}
		}
	}
}

func TestExamples(t *testing.T) {
	for _, c := range []struct {
		sig, want uint64
		m         int
	}{{6, 2, api.Even}, {6, 2, api.Away}, {6, 1, api.Zero}, {2, 0, api.Even}, {2, 1, api.Away}} {
		for _, neg := range both {
			if got, is := Cut(api.Wide{c.sig}, 2, false, c.m, neg); got != (api.Wide{c.want}) || !is {
				t.Errorf("Cut of %d by 2, mode %d: %x, %v", c.sig, c.m, got, is)
			}
		}
	}
}
