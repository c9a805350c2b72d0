package newton

import (
	"math"
	"math/big"
	"slices"
	"sync"
	"testing"

	"radicand/api"
	"radicand/rom"
)

const ones64 = math.MaxUint64

// full is 2^512 - 1.
var full = api.Wide{ones64, ones64, ones64, ones64, ones64, ones64, ones64, ones64}

// greatestD is the greatest divisor, 2^120 - 1, greatestN the greatest dividend of all, 2^128 of it without 1, and greatestQ the greatest quotient.
var (
	greatestD = api.Wide{ones64, ones64 >> 8}
	greatestN = api.Wide{ones64, ones64, ones64 - 1, ones64 >> 8}
	greatestQ = api.Wide{ones64, ones64}
)

func toBig(a api.Wide) *big.Int {
	z := new(big.Int)
	for i := len(a) - 1; i >= 0; i-- {
		z.Lsh(z, 64).Or(z, new(big.Int).SetUint64(a[i]))
	}
	return z
}

// fromBig is z modulo 2^512.
func fromBig(z *big.Int) api.Wide {
	var w api.Wide
	z = new(big.Int).And(z, toBig(full))
	for i := range w {
		w[i] = new(big.Int).And(z, new(big.Int).SetUint64(ones64)).Uint64()
		z.Rsh(z, 64)
	}
	return w
}

func power(n int) *big.Int {
	return new(big.Int).Lsh(big.NewInt(1), uint(n))
}

// ones is as many ones.
func ones(n int) *big.Int {
	return new(big.Int).Sub(power(n), big.NewInt(1))
}

func plus(z *big.Int, n int64) *big.Int {
	return new(big.Int).Add(z, big.NewInt(n))
}

// apart is how far two numbers are away from each other.
func apart(a, b *big.Int) *big.Int {
	z := new(big.Int).Sub(a, b)
	return z.Abs(z)
}

// mixed are numbers of all lengths from 1 to a greatest one.
func mixed(greatest int) []*big.Int {
	var l []*big.Int
	mix := uint64(0x13579bdf02468ace)
	for n := 1; n <= greatest; n += 1 + greatest/23 {
		z := new(big.Int)
		for range 8 {
			mix = mix*6364136223846793005 + 1442695040888963407
			z.Lsh(z, 64).Or(z, new(big.Int).SetUint64(mix^mix>>29))
		}
		l = append(l, z.And(z, ones(n)).SetBit(z, n-1, 1))
	}
	return l
}

// divisors are those that may be, and those that may not.
func divisors() []*big.Int {
	l := []*big.Int{new(big.Int), big.NewInt(1), big.NewInt(2), big.NewInt(3), big.NewInt(4), big.NewInt(7), big.NewInt(10),
		ones(63), power(63), ones(64), power(64), plus(power(64), 1), ones(119), power(119), plus(power(119), 1), plus(ones(120), -1), ones(120),
		power(120), plus(power(120), 1), ones(128), power(128), power(384), power(511), ones(512)}
	return append(l, mixed(130)...)
}

// placed are divisors at both ends of each place of the rom's first table: of 7 digits, of 64 and of 120.
func placed() []*big.Int {
	var l []*big.Int
	for i := range int64(64) {
		for _, below := range []int{0, 57, 113} {
			least := new(big.Int).Lsh(big.NewInt(64+i), uint(below))
			l = append(l, least, new(big.Int).Add(least, ones(below)))
		}
	}
	return l
}

// dividends are those on both sides of what a divisor may divide, those beside its products, and others.
func dividends(d *big.Int) []*big.Int {
	bound := new(big.Int).Lsh(d, 128)
	l := []*big.Int{new(big.Int), big.NewInt(1), big.NewInt(100), power(127), power(128), ones(128), ones(248), power(256), ones(512),
		plus(bound, -1), bound, plus(bound, 1), new(big.Int).Sub(bound, d), plus(new(big.Int).Sub(bound, d), -1),
		plus(d, -1), d, plus(d, 1), new(big.Int).Lsh(d, 127), plus(new(big.Int).Lsh(d, 127), -1), new(big.Int).Mul(d, new(big.Int).Div(ones(128), big.NewInt(3)))}
	l = append(l, mixed(260)...)
	return slices.DeleteFunc(l, func(n *big.Int) bool { return n.Sign() < 0 || n.BitLen() > 512 })
}

// pairs hands dividends and divisors on, and what layer 11 has to tell of them.
func pairs(do func(n, d *big.Int, e api.Errno)) {
	for _, d := range append(divisors(), placed()...) {
		for _, n := range dividends(d) {
			e := may(d)
			if e == api.OK && n.Cmp(new(big.Int).Lsh(d, 128)) >= 0 {
				e = api.ErrRange
			}
			do(n, d, e)
		}
	}
}

// may is what layer 11 has to tell of a divisor.
func may(d *big.Int) api.Errno {
	switch {
	case d.Sign() == 0:
		return api.ErrZero
	case d.BitLen() > 120:
		return api.ErrRange
	}
	return api.OK
}

// shifted is a divisor, shifted up, and by how much.
func shifted(d *big.Int) (*big.Int, uint) {
	by := uint(128 - d.BitLen())
	return new(big.Int).Lsh(d, by), by
}

// reciprocal is a divisor's reciprocal behind so many rounds, by the words of the chapters.
func reciprocal(d *big.Int, rounds int) *big.Int {
	up, _ := shifted(d)
	i := new(big.Int).Rsh(up, 121).Int64() - 64
	y := new(big.Int).Lsh(new(big.Int).Quo(power(17), big.NewInt(129+2*i)), 151)
	for range rounds {
		near1 := new(big.Int).Mul(up, y)
		near1.Rsh(near1, 128)
		y = new(big.Int).Mul(y, new(big.Int).Sub(power(161), near1))
		y.Rsh(y, 160)
	}
	return y
}

// guess is the guess for a quotient.
func guess(n, d *big.Int) *big.Int {
	_, by := shifted(d)
	q := new(big.Int).Mul(new(big.Int).Lsh(n, by), reciprocal(d, 5))
	return q.Rsh(q, 288)
}

// rounds are those that may be asked for, and those that may not.
var rounds = []int{math.MinInt, -1 << 32, -6, -1, 0, 1, 2, 3, 4, 5, 6, 9, 10, 11, 1<<32 + 5, math.MaxInt}

func TestRounds(t *testing.T) {
	if n := Rounds(); n != 5 {
		t.Errorf("Rounds: %d", n)
	}
}

func TestReciprocal(t *testing.T) {
	e := New(nil)
	for _, d := range slices.Concat(divisors(), placed(), mixed(512)) {
		for _, n := range rounds {
			var want api.Wide
			wantErr := may(d)
			switch {
			case n < 0 || n > 10:
				wantErr = api.ErrRange
			case wantErr == api.OK:
				want = fromBig(reciprocal(d, n))
			}
			if y, err := e.Reciprocal(fromBig(d), n); y != want || err != wantErr {
				t.Fatalf("Reciprocal(%x, %d): %x, %v, not %x, %v", d, n, y, err, want, wantErr)
			}
		}
	}
}

func TestReciprocalWritten(t *testing.T) {
	e := New(nil)
	// Written out, not reckoned.
	for _, c := range []struct {
		d      api.Wide
		rounds int
		y      api.Wide
		err    api.Errno
	}{
		{api.Wide{1}, 0, api.Wide{2: 0x1fc000000}, api.OK},
		{api.Wide{1}, 1, api.Wide{2: 0x1fff80000}, api.OK},
		{api.Wide{1}, 2, api.Wide{2: 0x1ffffffe0}, api.OK},
		{api.Wide{1}, 3, api.Wide{0, 0xfffffe0000000000, 0x1ffffffff}, api.OK},
		{api.Wide{1}, 4, api.Wide{0xfffe000000000000, ones64, 0x1ffffffff}, api.OK},
		{api.Wide{1}, 5, api.Wide{ones64, ones64, 0x1ffffffff}, api.OK},
		{api.Wide{1}, 6, api.Wide{2: 0x200000000}, api.OK},
		{api.Wide{1}, 10, api.Wide{2: 0x200000000}, api.OK},
		{api.Wide{1: 1 << 55}, 0, api.Wide{2: 0x1fc000000}, api.OK},
		{api.Wide{1: 1 << 55}, 5, api.Wide{ones64, ones64, 0x1ffffffff}, api.OK},
		{api.Wide{3}, 0, api.Wide{2: 0x153800000}, api.OK},
		{api.Wide{3}, 2, api.Wide{1: 0x9140000000000000, 2: 0x155555550}, api.OK},
		{api.Wide{3}, 4, api.Wide{0x5555547babf3c29b, 0x5555555555555555, 0x155555555}, api.OK},
		{api.Wide{3}, 5, api.Wide{0x5555555555555555, 0x5555555555555555, 0x155555555}, api.OK},
		{api.Wide{3}, 6, api.Wide{0x5555555555555556, 0x5555555555555555, 0x155555555}, api.OK},
		{api.Wide{10}, 5, api.Wide{0x999999999999999a, 0x9999999999999999, 0x199999999}, api.OK},
		{greatestD, 0, api.Wide{2: 0x101000000}, api.OK},
		{greatestD, 1, api.Wide{0x10201000000, 0, 0xffff0000}, api.OK},
		{greatestD, 5, api.Wide{0x10000000001, 0, 0x100000000}, api.OK},
		{greatestD, 10, api.Wide{0x10000000001, 0, 0x100000000}, api.OK},
		{d: api.Wide{}, rounds: 0, err: api.ErrZero},
		{d: api.Wide{}, rounds: 10, err: api.ErrZero},
		{d: api.Wide{1: 1 << 56}, rounds: 0, err: api.ErrRange},
		{d: api.Wide{1: 1 << 63}, rounds: 5, err: api.ErrRange},
		{d: api.Wide{1, 0, 1}, rounds: 5, err: api.ErrRange},
		{d: full, rounds: 10, err: api.ErrRange},
		{d: api.Wide{7}, rounds: -1, err: api.ErrRange},
		{d: api.Wide{7}, rounds: 11, err: api.ErrRange},
		// Which error is told first.
		{d: api.Wide{}, rounds: -1, err: api.ErrRange},
		{d: api.Wide{}, rounds: 11, err: api.ErrRange},
		{d: api.Wide{}, rounds: math.MinInt, err: api.ErrRange},
		{d: api.Wide{}, rounds: math.MaxInt, err: api.ErrRange},
		{d: full, rounds: -1, err: api.ErrRange},
		{d: full, rounds: 11, err: api.ErrRange},
	} {
		if y, err := e.Reciprocal(c.d, c.rounds); y != c.y || err != c.err {
			t.Errorf("Reciprocal(%x, %d): %x, %v, not %x, %v", c.d, c.rounds, y, err, c.y, c.err)
		}
	}
}

func TestGuess(t *testing.T) {
	e := New(nil)
	pairs(func(n, d *big.Int, wantErr api.Errno) {
		var want api.Wide
		if wantErr == api.OK {
			want = fromBig(guess(n, d))
		}
		if g, err := e.Guess(fromBig(n), fromBig(d)); g != want || err != wantErr {
			t.Fatalf("Guess(%x, %x): %x, %v, not %x, %v", n, d, g, err, want, wantErr)
		}
	})
	// Written out, not reckoned.
	for _, c := range []struct {
		n, d, g api.Wide
		err     api.Errno
	}{
		{api.Wide{100}, api.Wide{7}, api.Wide{14}, api.OK},
		{api.Wide{14}, api.Wide{7}, api.Wide{1}, api.OK},
		{api.Wide{6}, api.Wide{7}, api.Wide{}, api.OK},
		{api.Wide{}, api.Wide{9}, api.Wide{}, api.OK},
		{greatestQ, api.Wide{1}, api.Wide{ones64 - 1, ones64}, api.OK},
		{greatestN, greatestD, api.Wide{2: 1}, api.OK},
		{n: api.Wide{}, err: api.ErrZero},
		{n: full, err: api.ErrZero},
		{n: api.Wide{}, d: api.Wide{1: 1 << 56}, err: api.ErrRange},
		{n: api.Wide{2: 1}, d: api.Wide{1}, err: api.ErrRange},
		{n: full, d: full, err: api.ErrRange},
	} {
		if g, err := e.Guess(c.n, c.d); g != c.g || err != c.err {
			t.Errorf("Guess(%x, %x): %x, %v, not %x, %v", c.n, c.d, g, err, c.g, c.err)
		}
	}
}

func TestDivide(t *testing.T) {
	e := New(nil)
	pairs(func(n, d *big.Int, wantErr api.Errno) {
		want, rest := new(big.Int), new(big.Int)
		if wantErr == api.OK {
			want.QuoRem(n, d, rest)
		}
		if q, r, err := e.Divide(fromBig(n), fromBig(d)); q != fromBig(want) || r != fromBig(rest) || err != wantErr {
			t.Fatalf("Divide(%x, %x): %x, %x, %v, not %x, %x, %v", n, d, q, r, err, want, rest, wantErr)
		}
	})
}

func TestDivideWritten(t *testing.T) {
	e := New(nil)
	for _, c := range []struct {
		n, d, q, r api.Wide
		err        api.Errno
	}{
		{api.Wide{100}, api.Wide{7}, api.Wide{14}, api.Wide{2}, api.OK},
		{api.Wide{98}, api.Wide{7}, api.Wide{14}, api.Wide{}, api.OK},
		{api.Wide{97}, api.Wide{7}, api.Wide{13}, api.Wide{6}, api.OK},
		{api.Wide{6}, api.Wide{7}, api.Wide{}, api.Wide{6}, api.OK},
		{api.Wide{7}, api.Wide{7}, api.Wide{1}, api.Wide{}, api.OK},
		{api.Wide{13}, api.Wide{7}, api.Wide{1}, api.Wide{6}, api.OK},
		{api.Wide{}, api.Wide{1}, api.Wide{}, api.Wide{}, api.OK},
		{api.Wide{}, greatestD, api.Wide{}, api.Wide{}, api.OK},
		{api.Wide{1}, api.Wide{1}, api.Wide{1}, api.Wide{}, api.OK},
		{greatestQ, api.Wide{1}, greatestQ, api.Wide{}, api.OK},
		{api.Wide{ones64, ones64, 6}, api.Wide{7}, greatestQ, api.Wide{6}, api.OK},
		{api.Wide{ones64 - 6, ones64, 6}, api.Wide{7}, greatestQ, api.Wide{}, api.OK},
		{api.Wide{ones64 - 7, ones64, 6}, api.Wide{7}, api.Wide{ones64 - 1, ones64}, api.Wide{6}, api.OK},
		{greatestN, greatestD, greatestQ, api.Wide{ones64 - 1, ones64 >> 8}, api.OK},
		{api.Wide{ones64, ones64, ones64, 1<<55 - 1}, api.Wide{1: 1 << 55}, greatestQ, api.Wide{ones64, 1<<55 - 1}, api.OK},
		{api.Wide{1: 1 << 55}, api.Wide{1: 1 << 55}, api.Wide{1}, api.Wide{}, api.OK},
		{api.Wide{ones64, 1<<55 - 1}, api.Wide{1: 1 << 55}, api.Wide{}, api.Wide{ones64, 1<<55 - 1}, api.OK},
		// The divisor times 2^128 is just too great.
		{n: api.Wide{2: 1}, d: api.Wide{1}, err: api.ErrRange},
		{n: api.Wide{2: 7}, d: api.Wide{7}, err: api.ErrRange},
		{n: api.Wide{0, 0, ones64, ones64 >> 8}, d: greatestD, err: api.ErrRange},
		{n: api.Wide{3: 1 << 55}, d: api.Wide{1: 1 << 55}, err: api.ErrRange},
		{n: api.Wide{100}, d: api.Wide{1: 1 << 56}, err: api.ErrRange},
		{n: api.Wide{}, d: full, err: api.ErrRange},
		{n: full, d: full, err: api.ErrRange},
		// Which error is told first.
		{n: api.Wide{}, d: api.Wide{}, err: api.ErrZero},
		{n: full, d: api.Wide{}, err: api.ErrZero},
	} {
		if q, r, err := e.Divide(c.n, c.d); q != c.q || r != c.r || err != c.err {
			t.Errorf("Divide(%x, %x): %x, %x, %v, not %x, %x, %v", c.n, c.d, q, r, err, c.q, c.r, c.err)
		}
	}
}

// TestNew holds where an engine's guesses come from: from the rom that it is made with, or else from one of its own.
func TestNew(t *testing.T) {
	r, other := rom.New(), rom.New()
	first, second, own := New(r), New(r), New(nil)
	if r.Made() != 0 {
		t.Errorf("New asks the rom for something: %d", r.Made())
	}
	// What can't be divided needs no guess.
	first.Divide(api.Wide{1}, api.Wide{})
	first.Guess(full, api.Wide{7})
	first.Reciprocal(full, 5)
	first.Reciprocal(api.Wide{7}, 11)
	own.Divide(api.Wide{100}, api.Wide{7})
	if r.Made() != 0 {
		t.Errorf("the rom is asked for something without a division: %d", r.Made())
	}
	for k, e := range []*Engine{first, second, own} {
		if q, left, err := e.Divide(api.Wide{}, api.Wide{7}); q != (api.Wide{}) || left != (api.Wide{}) || err != api.OK {
			t.Errorf("0 by 7, by the engine %d: %x, %x, %v", k, q, left, err)
		}
		if q, left, err := e.Divide(api.Wide{100}, api.Wide{7}); q != (api.Wide{14}) || left != (api.Wide{2}) || err != api.OK {
			t.Errorf("100 by 7, by the engine %d: %x, %x, %v", k, q, left, err)
		}
		if r.Made() != 1 {
			t.Errorf("behind a division by the engine %d: %d", k, r.Made())
		}
	}
	if other.Made() != 0 {
		t.Errorf("a rom of nobody's: %d", other.Made())
	}
}

// TestMade holds which calls ask the rom.
func TestMade(t *testing.T) {
	for name, call := range map[string]func(e *Engine){
		"Divide":          func(e *Engine) { e.Divide(api.Wide{100}, api.Wide{7}) },
		"Divide of 0":     func(e *Engine) { e.Divide(api.Wide{}, api.Wide{7}) },
		"Guess":           func(e *Engine) { e.Guess(api.Wide{100}, api.Wide{7}) },
		"Reciprocal":      func(e *Engine) { e.Reciprocal(api.Wide{7}, 5) },
		"Reciprocal at 0": func(e *Engine) { e.Reciprocal(api.Wide{7}, 0) },
	} {
		r := rom.New()
		e := New(r)
		for range 3 {
			call(e)
			if r.Made() != 1 {
				t.Errorf("behind %s: %d", name, r.Made())
			}
		}
	}
}

// TestNil holds that every call of a nil engine is ErrState, and zeros, whatever it is given.
func TestNil(t *testing.T) {
	var e *Engine
	for _, a := range []api.Wide{{}, {1}, {7}, {100}, greatestD, {1: 1 << 56}, greatestN, full} {
		for _, d := range []api.Wide{{}, {1}, {7}, greatestD, {1: 1 << 56}, full} {
			if q, r, err := e.Divide(a, d); q != (api.Wide{}) || r != (api.Wide{}) || err != api.ErrState {
				t.Errorf("Divide(%x, %x) of a nil engine: %x, %x, %v", a, d, q, r, err)
			}
			if g, err := e.Guess(a, d); g != (api.Wide{}) || err != api.ErrState {
				t.Errorf("Guess(%x, %x) of a nil engine: %x, %v", a, d, g, err)
			}
		}
		for _, n := range rounds {
			if y, err := e.Reciprocal(a, n); y != (api.Wide{}) || err != api.ErrState {
				t.Errorf("Reciprocal(%x, %d) of a nil engine: %x, %v", a, n, y, err)
			}
		}
	}
}

// TestSeveral holds that several goroutines may use one engine, and engines that share a rom.
func TestSeveral(t *testing.T) {
	for range 10 {
		r := rom.New()
		shared := New(r)
		var all sync.WaitGroup
		for k := range 8 {
			all.Go(func() {
				for _, e := range []*Engine{shared, New(r)} {
					for i := range 64 {
						use(t, e, plus(power(7), int64((i+8*k)%64)))
					}
				}
			})
		}
		all.Wait()
		if r.Made() != 1 {
			t.Errorf("the rom of several engines: %d", r.Made())
		}
	}
}

// use divides by a divisor, and asks for its reciprocal and for a guess.
func use(t *testing.T, e *Engine, d *big.Int) {
	n := new(big.Int).Sub(new(big.Int).Lsh(d, 128), big.NewInt(1))
	q, r, err := e.Divide(fromBig(n), fromBig(d))
	if q != greatestQ || r != fromBig(plus(d, -1)) || err != api.OK {
		t.Errorf("Divide(%x, %x): %x, %x, %v", n, d, q, r, err)
	}
	if y, err := e.Reciprocal(fromBig(d), 3); y != fromBig(reciprocal(d, 3)) || err != api.OK {
		t.Errorf("Reciprocal(%x, 3): %x, %v", d, y, err)
	}
	if g, err := e.Guess(fromBig(n), fromBig(d)); g != fromBig(guess(n, d)) || err != api.OK {
		t.Errorf("Guess(%x, %x): %x, %v", n, d, g, err)
	}
}

// TestTogether holds what follows (P19.3): how near reciprocals and guesses come.
func TestTogether(t *testing.T) {
	e := New(nil)
	for _, d := range append(divisors(), placed()...) {
		if may(d) != api.OK {
			continue
		}
		up, _ := shifted(d)
		for k := range 6 {
			y, err := e.Reciprocal(fromBig(d), k)
			far := apart(new(big.Int).Mul(up, toBig(y)), power(288))
			most := new(big.Int).Add(power(288-6<<k), power(138))
			if err != api.OK || far.Cmp(most) > 0 {
				t.Errorf("Reciprocal(%x, %d): %x, %v is too far away", d, k, y, err)
			}
		}
	}
	pairs(func(n, d *big.Int, err api.Errno) {
		if err != api.OK {
			return
		}
		g, err := e.Guess(fromBig(n), fromBig(d))
		if err != api.OK || apart(toBig(g), new(big.Int).Quo(n, d)).Cmp(big.NewInt(2)) > 0 {
			t.Errorf("Guess(%x, %x): %x, %v is too far away", n, d, g, err)
		}
	})
}
