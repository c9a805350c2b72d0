package rom

import (
	"math"
	"math/big"
	"sync"
	"testing"

	"radicand/api"
)

const ones64 = math.MaxUint64

// full is 2^512 - 1.
var full = api.Wide{ones64, ones64, ones64, ones64, ones64, ones64, ones64, ones64}

// fromBig is z modulo 2^512.
func fromBig(z *big.Int) api.Wide {
	var w api.Wide
	for i := range w {
		limb := new(big.Int).Rsh(z, uint(64*i))
		w[i] = limb.And(limb, new(big.Int).SetUint64(ones64)).Uint64()
	}
	return w
}

func power(n int) *big.Int {
	return new(big.Int).Lsh(big.NewInt(1), uint(n))
}

func plus(z *big.Int, n int64) *big.Int {
	return new(big.Int).Add(z, big.NewInt(n))
}

// place is a number whose highest digits, down from that of 2^top on, are those of i, and whose other ones are 0, 1, or mixed: the first is the least of these numbers, the second the greatest.
func place(i, top, digits int) []*big.Int {
	least := new(big.Int).Lsh(big.NewInt(int64(i)), uint(top+1-digits))
	below := power(top + 1 - digits)
	l := []*big.Int{least, new(big.Int).Add(least, plus(below, -1)), plus(least, 1)}
	mix := uint64(0x0123456789abcdef)
	z := new(big.Int)
	for range 4 {
		mix = mix*6364136223846793005 + 1442695040888963407
		z.Lsh(z, 64).Or(z, new(big.Int).SetUint64(mix^mix>>29))
	}
	return append(l, new(big.Int).Add(least, z.Mod(z, below)))
}

// recip is what the first table has of i, by the words of the chapter.
func recip(i int) uint64 {
	return new(big.Int).Quo(power(17), big.NewInt(int64(129+2*i))).Uint64()
}

// rootOf is what the second one has.
func rootOf(i int) uint64 {
	n := new(big.Int).Quo(power(26), big.NewInt(int64(2*i+1)))
	return n.Sqrt(n).Uint64()
}

// strangers are places that neither table has.
var strangers = []int{math.MinInt, math.MinInt + 1, math.MinInt + 31, math.MinInt + 32, math.MinInt + 63, math.MinInt + 127, -1 << 32, -64, -32, -1, 128, 129, 255, 1 << 32, 1<<32 + 40, math.MaxInt}

func TestRecip(t *testing.T) {
	r := New()
	for i := range 64 {
		if a, ok := r.Recip(i); a != recip(i) || !ok {
			t.Errorf("Recip(%d): %d, %v, not %d", i, a, ok, recip(i))
		}
	}
	for _, i := range append([]int{64, 65, 127}, strangers...) {
		if a, ok := r.Recip(i); a != 0 || ok {
			t.Errorf("Recip(%d): %d, %v", i, a, ok)
		}
	}
	// Written out, not reckoned.
	for i, want := range map[int]uint64{0: 1016, 1: 1000, 2: 985, 16: 814, 31: 686, 32: 679, 33: 672, 62: 518, 63: 514} {
		if a, ok := r.Recip(i); a != want || !ok {
			t.Errorf("Recip(%d): %d, %v, not %d", i, a, ok, want)
		}
	}
}

func TestRoot(t *testing.T) {
	r := New()
	for i := 32; i < 128; i++ {
		if a, ok := r.Root(i); a != rootOf(i) || !ok {
			t.Errorf("Root(%d): %d, %v, not %d", i, a, ok, rootOf(i))
		}
	}
	for _, i := range append([]int{0, 1, 30, 31}, strangers...) {
		if a, ok := r.Root(i); a != 0 || ok {
			t.Errorf("Root(%d): %d, %v", i, a, ok)
		}
	}
	// Written out, not reckoned.
	for i, want := range map[int]uint64{32: 1016, 33: 1000, 40: 910, 63: 726, 64: 721, 65: 715, 126: 515, 127: 513} {
		if a, ok := r.Root(i); a != want || !ok {
			t.Errorf("Root(%d): %d, %v, not %d", i, a, ok, want)
		}
	}
}

func TestGuess(t *testing.T) {
	r := New()
	for i := range 64 {
		for _, d := range place(64+i, 127, 7) {
			if a, ok := r.Guess(fromBig(d)); a != recip(i) || !ok {
				t.Errorf("Guess(%x): %d, %v, not %d", d, a, ok, recip(i))
			}
		}
		for _, top := range []int{0, 6, 63, 64, 120, 125, 126, 128, 129, 191, 255, 256, 511} {
			for _, d := range place(64+i, max(top, 6), 7) {
				if a, ok := r.Guess(fromBig(d)); a != 0 || ok {
					t.Errorf("Guess(%x): %d, %v", d, a, ok)
				}
			}
		}
	}
	// Written out, not reckoned.
	for _, c := range []struct {
		d  api.Wide
		a  uint64
		ok bool
	}{
		{api.Wide{1: 1 << 63}, 1016, true},
		{api.Wide{1: 1<<63 + 1<<57}, 1000, true},
		{api.Wide{ones64, 1<<63 + 1<<57 - 1}, 1016, true},
		{api.Wide{1: 127 << 57}, 514, true},
		{api.Wide{ones64, ones64}, 514, true},
		{api.Wide{ones64, 127<<57 - 1}, 518, true},
		{d: api.Wide{}},
		{d: api.Wide{1}},
		{d: api.Wide{1: 1 << 62}},
		{d: api.Wide{ones64, 1<<63 - 1}},
		{d: api.Wide{2: 1}},
		{d: api.Wide{ones64, ones64, 1}},
		// What a number has above its lowest 128 digits isn't passed over.
		{d: api.Wide{1: 1 << 63, 2: 1 << 57}},
		{d: api.Wide{1: 1 << 63, 7: 1 << 63}},
		{d: full},
	} {
		if a, ok := r.Guess(c.d); a != c.a || ok != c.ok {
			t.Errorf("Guess(%x): %d, %v, not %d, %v", c.d, a, ok, c.a, c.ok)
		}
	}
}

func TestGuessRoot(t *testing.T) {
	r := New()
	for i := 1; i < 128; i++ {
		for _, n := range place(i, 255, 7) {
			want, wantOk := uint64(0), i >= 32
			if wantOk {
				want = rootOf(i)
			}
			if a, ok := r.GuessRoot(fromBig(n)); a != want || ok != wantOk {
				t.Errorf("GuessRoot(%x): %d, %v, not %d", n, a, ok, want)
			}
		}
		for _, top := range []int{6, 127, 128, 248, 249, 252, 253, 256, 257, 258, 319, 383, 511} {
			for _, n := range place(i|64, top, 7) {
				if a, ok := r.GuessRoot(fromBig(n)); a != 0 || ok {
					t.Errorf("GuessRoot(%x): %d, %v", n, a, ok)
				}
			}
		}
	}
	// Written out, not reckoned.
	for _, c := range []struct {
		n  api.Wide
		a  uint64
		ok bool
	}{
		{api.Wide{3: 1 << 62}, 1016, true},
		{api.Wide{ones64, ones64, ones64, 1<<62 + 1<<57 - 1}, 1016, true},
		{api.Wide{3: 1<<62 + 1<<57}, 1000, true},
		{api.Wide{ones64, ones64, ones64, 1<<63 - 1}, 726, true},
		{api.Wide{3: 1 << 63}, 721, true},
		{api.Wide{ones64, ones64, ones64, ones64}, 513, true},
		{n: api.Wide{}},
		{n: api.Wide{1}},
		{n: api.Wide{3: 1 << 61}},
		{n: api.Wide{ones64, ones64, ones64, 1<<62 - 1}},
		{n: api.Wide{4: 1}},
		{n: api.Wide{3: 1 << 63, 4: 1}},
		{n: api.Wide{3: 1 << 63, 4: 1 << 57}},
		{n: api.Wide{3: 1 << 62, 7: 1 << 63}},
		{n: full},
	} {
		if a, ok := r.GuessRoot(c.n); a != c.a || ok != c.ok {
			t.Errorf("GuessRoot(%x): %d, %v, not %d, %v", c.n, a, ok, c.a, c.ok)
		}
	}
}

// calls are the four calls that ask for something of a rom, each with what is there and with what isn't.
func calls() map[string]func(r *Rom) (uint64, bool) {
	return map[string]func(r *Rom) (uint64, bool){
		"Recip(0)":         func(r *Rom) (uint64, bool) { return r.Recip(0) },
		"Recip(64)":        func(r *Rom) (uint64, bool) { return r.Recip(64) },
		"Recip(-1)":        func(r *Rom) (uint64, bool) { return r.Recip(-1) },
		"Root(32)":         func(r *Rom) (uint64, bool) { return r.Root(32) },
		"Root(31)":         func(r *Rom) (uint64, bool) { return r.Root(31) },
		"Root(128)":        func(r *Rom) (uint64, bool) { return r.Root(128) },
		"Guess(2^127)":     func(r *Rom) (uint64, bool) { return r.Guess(api.Wide{1: 1 << 63}) },
		"Guess(0)":         func(r *Rom) (uint64, bool) { return r.Guess(api.Wide{}) },
		"Guess(full)":      func(r *Rom) (uint64, bool) { return r.Guess(full) },
		"GuessRoot(2^254)": func(r *Rom) (uint64, bool) { return r.GuessRoot(api.Wide{3: 1 << 62}) },
		"GuessRoot(0)":     func(r *Rom) (uint64, bool) { return r.GuessRoot(api.Wide{}) },
		"GuessRoot(full)":  func(r *Rom) (uint64, bool) { return r.GuessRoot(full) },
	}
}

func TestMade(t *testing.T) {
	for name, call := range calls() {
		r, other := New(), New()
		if r.Made() != 0 || r.Made() != 0 {
			t.Errorf("of a new rom: %d", r.Made())
		}
		for range 3 {
			call(r)
			if r.Made() != 1 {
				t.Errorf("behind %s: %d", name, r.Made())
			}
		}
		for _, next := range calls() {
			next(r)
		}
		if r.Made() != 1 || other.Made() != 0 {
			t.Errorf("behind %s and all others: %d, and of a rom that was asked for nothing %d", name, r.Made(), other.Made())
		}
	}
}

func TestNil(t *testing.T) {
	var r *Rom
	for name, call := range calls() {
		if a, ok := call(r); a != 0 || ok {
			t.Errorf("%s of a nil rom: %d, %v", name, a, ok)
		}
		if r.Made() != 0 {
			t.Errorf("Made of a nil rom, behind %s: %d", name, r.Made())
		}
	}
}

// TestSeveral holds that several goroutines may use one rom, which makes its tables once.
func TestSeveral(t *testing.T) {
	for range 20 {
		r := New()
		var all sync.WaitGroup
		for k := range 8 {
			all.Go(func() {
				if made := r.Made(); made != 0 && made != 1 {
					t.Errorf("Made on the way: %d", made)
				}
				for n := range 64 {
					i := (n + 8*k) % 64
					if a, ok := r.Recip(i); a != recip(i) || !ok {
						t.Errorf("Recip(%d): %d, %v", i, a, ok)
					}
					if a, ok := r.Root(32 + i); a != rootOf(32+i) || !ok {
						t.Errorf("Root(%d): %d, %v", 32+i, a, ok)
					}
				}
				if r.Made() != 1 {
					t.Errorf("Made behind calls: %d", r.Made())
				}
			})
		}
		all.Wait()
		if r.Made() != 1 {
			t.Errorf("Made at the end: %d", r.Made())
		}
	}
}

// far tells whether a fraction's two parts, divided, are farther than 1/most from 1.
func far(up, down *big.Int, most int64) bool {
	apart := new(big.Int).Sub(up, down)
	apart.Abs(apart).Mul(apart, big.NewInt(most))
	return apart.Cmp(down) > 0
}

// TestTogether holds what follows (P17.3), at both ends of what each place is for.
func TestTogether(t *testing.T) {
	r := New()
	for i := range 64 {
		for _, d := range place(64+i, 127, 7) {
			a, ok := r.Guess(fromBig(d))
			guess := new(big.Int).SetUint64(a)
			if !ok || far(guess.Mul(guess, d), power(128+9), 64) {
				t.Errorf("Guess(%x): %d, %v is too far away", d, a, ok)
			}
		}
	}
	for i := 32; i < 128; i++ {
		for _, n := range place(i, 255, 7) {
			a, ok := r.GuessRoot(fromBig(n))
			guess := new(big.Int).SetUint64(a)
			guess.Mul(guess, guess)
			if !ok || far(guess.Mul(guess, n), power(256+18), 32) {
				t.Errorf("GuessRoot(%x): %d, %v is too far away", n, a, ok)
			}
		}
	}
}
