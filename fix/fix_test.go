package fix

import (
	"math"
	"math/big"
	"testing"

	"radicand/api"
)

const ones64 = math.MaxUint64

// full is 2^512 - 1.
var full = api.Wide{ones64, ones64, ones64, ones64, ones64, ones64, ones64, ones64}

// greatestD is 2^120 - 1, greatestN the greatest dividend that it divides, greatestGuess 2^200 - 1.
var (
	greatestD     = api.Wide{ones64, ones64 >> 8}
	greatestN     = api.Wide{ones64, ones64, ones64 - 1, ones64 >> 8}
	greatestGuess = api.Wide{ones64, ones64, ones64, ones64 >> 56}
)

func toBig(a api.Wide) *big.Int {
	z := new(big.Int)
	for i := len(a) - 1; i >= 0; i-- {
		z.Lsh(z, 64).Or(z, new(big.Int).SetUint64(a[i]))
	}
	return z
}

// fromBig is z modulo 2^512.
func fromBig(z *big.Int) api.Wide {
	var w api.Wide
	z = new(big.Int).And(z, toBig(full))
	for i := range w {
		w[i] = new(big.Int).And(z, new(big.Int).SetUint64(ones64)).Uint64()
		z.Rsh(z, 64)
	}
	return w
}

func power(n int) *big.Int {
	return new(big.Int).Lsh(big.NewInt(1), uint(n))
}

// ones is as many ones.
func ones(n int) *big.Int {
	return new(big.Int).Sub(power(n), big.NewInt(1))
}

func plus(z *big.Int, n int64) *big.Int {
	return new(big.Int).Add(z, big.NewInt(n))
}

func product(a, b *big.Int) *big.Int {
	return new(big.Int).Mul(a, b)
}

// mixed are numbers of all lengths from 1 to a greatest one.
func mixed(greatest int) []*big.Int {
	var l []*big.Int
	mix := uint64(0x0123456789abcdef)
	for n := 1; n <= greatest; n += 1 + greatest/23 {
		z := new(big.Int)
		for range 8 {
			mix = mix*6364136223846793005 + 1442695040888963407
			z.Lsh(z, 64).Or(z, new(big.Int).SetUint64(mix^mix>>29))
		}
		l = append(l, z.And(z, ones(n)).SetBit(z, n-1, 1))
	}
	return l
}

// mosts are numbers of steps that may be asked for, and those that may not.
var mosts = []int{math.MinInt, -1 << 32, -1, 0, 1, 2, 7, 99, 100, 101, 1 << 32, math.MaxInt}

// guesses are those just right, away by most, by one more and by others, both above and below, and those far away and too long.
func guesses(right *big.Int, most int) []*big.Int {
	l := []*big.Int{new(big.Int), power(128), plus(ones(200), -1), ones(200), power(200), plus(power(200), 1), power(256), ones(512), right}
	if most < 0 || most > 100 {
		return l
	}
	for _, by := range []int64{1, 2, int64(most) - 1, int64(most), int64(most) + 1, int64(most) + 2, 500} {
		for _, guess := range []*big.Int{plus(right, by), plus(right, -by)} {
			if guess.Sign() >= 0 {
				l = append(l, guess)
			}
		}
	}
	return l
}

// want is what comes of a guess, by the words of the chapter: of what the numbers themselves are told, the number that is right, and what is left.
func want(most int, e api.Errno, right, rest, guess *big.Int) (api.Wide, api.Wide, int, api.Errno) {
	apart := new(big.Int)
	if e == api.OK {
		apart.Sub(guess, right).Abs(apart)
	}
	switch {
	case most < 0 || most > 100:
		e = api.ErrArg
	case e != api.OK:
	case guess.Cmp(power(200)) >= 0:
		e = api.ErrRange
	case apart.Cmp(big.NewInt(int64(most))) > 0:
		e = api.ErrState
	default:
		return fromBig(right), fromBig(rest), int(apart.Int64()), api.OK
	}
	return api.Wide{}, api.Wide{}, 0, e
}

// pairs hands dividends and divisors on, what they are told, and quotients and remainders of those that may be.
func pairs(do func(n, d *big.Int, e api.Errno, q, r *big.Int)) {
	divisors := []*big.Int{new(big.Int), big.NewInt(1), big.NewInt(2), big.NewInt(7), power(64), power(119), ones(120), power(120), ones(128), power(511), ones(512)}
	for _, d := range append(divisors, mixed(125)...) {
		bound := new(big.Int).Lsh(d, 128)
		dividends := []*big.Int{new(big.Int), big.NewInt(1), big.NewInt(100), d, plus(d, 1), ones(128), power(128), ones(248), ones(512), new(big.Int).Sub(bound, d), plus(bound, -1), bound}
		for _, n := range append(dividends, mixed(260)...) {
			e := api.OK
			switch {
			case n.Sign() < 0 || n.BitLen() > 512:
				continue
			case d.Sign() == 0:
				e = api.ErrZero
			case d.Cmp(power(120)) >= 0, n.Cmp(bound) >= 0:
				e = api.ErrRange
			}
			q, r := new(big.Int), new(big.Int)
			if e == api.OK {
				q.QuoRem(n, d, r)
			}
			do(n, d, e, q, r)
		}
	}
}

func TestQuotient(t *testing.T) {
	turn := 0
	pairs(func(n, d *big.Int, e api.Errno, right, rest *big.Int) {
		// Each most comes with many pairs, though not with each one.
		for k := range 3 {
			most := mosts[(turn+k*4)%len(mosts)]
			for _, guess := range guesses(right, most) {
				wantQ, wantR, wantSteps, wantE := want(most, e, right, rest, guess)
				q, r, steps, e := Quotient(fromBig(n), fromBig(d), fromBig(guess), most)
				if q != wantQ || r != wantR || steps != wantSteps || e != wantE {
					t.Fatalf("Quotient(%x, %x, %x, %d): %x, %x, %d, %v, not %x, %x, %d, %v", n, d, guess, most, q, r, steps, e, wantQ, wantR, wantSteps, wantE)
				}
			}
		}
		turn++
	})
}

func TestQuotientWritten(t *testing.T) {
	top := api.Wide{ones64, ones64}
	for _, c := range []struct {
		n, d, guess api.Wide
		most        int
		q, r        api.Wide
		steps       int
		e           api.Errno
	}{
		{api.Wide{100}, api.Wide{7}, api.Wide{12}, 2, api.Wide{14}, api.Wide{2}, 2, api.OK},
		{api.Wide{100}, api.Wide{7}, api.Wide{12}, 100, api.Wide{14}, api.Wide{2}, 2, api.OK},
		{api.Wide{100}, api.Wide{7}, api.Wide{14}, 0, api.Wide{14}, api.Wide{2}, 0, api.OK},
		{api.Wide{98}, api.Wide{7}, api.Wide{14}, 0, api.Wide{14}, api.Wide{}, 0, api.OK},
		{api.Wide{97}, api.Wide{7}, api.Wide{14}, 1, api.Wide{13}, api.Wide{6}, 1, api.OK},
		{api.Wide{100}, api.Wide{7}, api.Wide{}, 14, api.Wide{14}, api.Wide{2}, 14, api.OK},
		{api.Wide{100}, api.Wide{7}, api.Wide{28}, 14, api.Wide{14}, api.Wide{2}, 14, api.OK},
		{api.Wide{700}, api.Wide{7}, api.Wide{}, 100, api.Wide{100}, api.Wide{}, 100, api.OK},
		{api.Wide{6}, api.Wide{7}, api.Wide{100}, 100, api.Wide{}, api.Wide{6}, 100, api.OK},
		{api.Wide{}, greatestD, api.Wide{}, 0, api.Wide{}, api.Wide{}, 0, api.OK},
		{top, api.Wide{1}, top, 0, top, api.Wide{}, 0, api.OK},
		{top, api.Wide{1}, api.Wide{2: 1}, 1, top, api.Wide{}, 1, api.OK},
		{greatestN, greatestD, api.Wide{99, 0, 1}, 100, top, api.Wide{ones64 - 1, ones64 >> 8}, 100, api.OK},
		{greatestN, greatestD, api.Wide{ones64 - 100, ones64}, 100, top, api.Wide{ones64 - 1, ones64 >> 8}, 100, api.OK},
		// By one more than most, above and below.
		{n: api.Wide{100}, d: api.Wide{7}, guess: api.Wide{13}, most: 0, e: api.ErrState},
		{n: api.Wide{100}, d: api.Wide{7}, guess: api.Wide{15}, most: 0, e: api.ErrState},
		{n: api.Wide{100}, d: api.Wide{7}, guess: api.Wide{11}, most: 2, e: api.ErrState},
		{n: api.Wide{100}, d: api.Wide{7}, guess: api.Wide{17}, most: 2, e: api.ErrState},
		{n: api.Wide{707}, d: api.Wide{7}, guess: api.Wide{}, most: 100, e: api.ErrState},
		{n: api.Wide{6}, d: api.Wide{7}, guess: api.Wide{101}, most: 100, e: api.ErrState},
		{n: greatestN, d: greatestD, guess: api.Wide{100, 0, 1}, most: 100, e: api.ErrState},
		{n: greatestN, d: greatestD, guess: greatestGuess, most: 100, e: api.ErrState},
		// Which error is told first.
		{n: full, d: api.Wide{}, guess: full, most: -1, e: api.ErrArg},
		{n: full, d: api.Wide{}, guess: full, most: 101, e: api.ErrArg},
		{n: api.Wide{100}, d: api.Wide{7}, guess: api.Wide{14}, most: 101, e: api.ErrArg},
		{n: api.Wide{100}, d: api.Wide{7}, guess: api.Wide{14}, most: -1, e: api.ErrArg},
		{n: full, d: api.Wide{}, guess: full, most: 0, e: api.ErrZero},
		{n: full, d: full, guess: api.Wide{1}, most: 100, e: api.ErrRange},
		{n: api.Wide{2: 1}, d: api.Wide{1}, guess: api.Wide{2: 1}, most: 5, e: api.ErrRange},
		{n: api.Wide{100}, d: api.Wide{7}, guess: api.Wide{3: 1 << 8}, most: 5, e: api.ErrRange},
		{n: api.Wide{100}, d: api.Wide{7}, guess: full, most: 5, e: api.ErrRange},
	} {
		if q, r, steps, e := Quotient(c.n, c.d, c.guess, c.most); q != c.q || r != c.r || steps != c.steps || e != c.e {
			t.Errorf("Quotient(%x, %x, %x, %d): %x, %x, %d, %v", c.n, c.d, c.guess, c.most, q, r, steps, e)
		}
	}
}

// radicands are numbers that have a root here, squares and those beside them among them, and those that have none.
func radicands() []*big.Int {
	l := []*big.Int{ones(256), power(256), plus(power(256), 1), power(257), ones(512)}
	for n := range int64(30) {
		l = append(l, big.NewInt(n))
	}
	for _, s := range append(mixed(128), ones(128), power(127), ones(64), power(64), big.NewInt(10)) {
		square := product(s, s)
		l = append(l, plus(square, -1), square, plus(square, 1), new(big.Int).Add(square, s), plus(new(big.Int).Add(square, s), 1))
	}
	return append(l, mixed(260)...)
}

func TestRoot(t *testing.T) {
	for _, n := range radicands() {
		e, right, rest := api.OK, new(big.Int), new(big.Int)
		if n.BitLen() > 256 {
			e = api.ErrRange
		} else {
			right.Sqrt(n)
			rest.Sub(n, product(right, right))
		}
		for _, most := range mosts {
			for _, guess := range guesses(right, most) {
				wantS, wantR, wantSteps, wantE := want(most, e, right, rest, guess)
				s, r, steps, e := Root(fromBig(n), fromBig(guess), most)
				if s != wantS || r != wantR || steps != wantSteps || e != wantE {
					t.Fatalf("Root(%x, %x, %d): %x, %x, %d, %v, not %x, %x, %d, %v", n, guess, most, s, r, steps, e, wantS, wantR, wantSteps, wantE)
				}
			}
		}
	}
}

func TestRootWritten(t *testing.T) {
	top, greatest := api.Wide{ones64, ones64}, api.Wide{ones64, ones64, ones64, ones64}
	for _, c := range []struct {
		n, guess api.Wide
		most     int
		s, r     api.Wide
		steps    int
		e        api.Errno
	}{
		{api.Wide{99}, api.Wide{11}, 3, api.Wide{9}, api.Wide{18}, 2, api.OK},
		{api.Wide{99}, api.Wide{9}, 0, api.Wide{9}, api.Wide{18}, 0, api.OK},
		{api.Wide{100}, api.Wide{9}, 1, api.Wide{10}, api.Wide{}, 1, api.OK},
		{api.Wide{101}, api.Wide{}, 10, api.Wide{10}, api.Wide{1}, 10, api.OK},
		{api.Wide{}, api.Wide{}, 0, api.Wide{}, api.Wide{}, 0, api.OK},
		{api.Wide{}, api.Wide{100}, 100, api.Wide{}, api.Wide{}, 100, api.OK},
		{api.Wide{1}, api.Wide{}, 1, api.Wide{1}, api.Wide{}, 1, api.OK},
		{api.Wide{2}, api.Wide{1}, 0, api.Wide{1}, api.Wide{1}, 0, api.OK},
		{api.Wide{3}, api.Wide{2}, 1, api.Wide{1}, api.Wide{2}, 1, api.OK},
		{api.Wide{4}, api.Wide{1}, 1, api.Wide{2}, api.Wide{}, 1, api.OK},
		{greatest, top, 0, top, api.Wide{ones64 - 1, ones64, 1}, 0, api.OK},
		{greatest, api.Wide{99, 0, 1}, 100, top, api.Wide{ones64 - 1, ones64, 1}, 100, api.OK},
		{greatest, api.Wide{ones64 - 100, ones64}, 100, top, api.Wide{ones64 - 1, ones64, 1}, 100, api.OK},
		// By one more than most, above and below.
		{n: api.Wide{99}, guess: api.Wide{11}, most: 1, e: api.ErrState},
		{n: api.Wide{99}, guess: api.Wide{10}, most: 0, e: api.ErrState},
		{n: api.Wide{99}, guess: api.Wide{8}, most: 0, e: api.ErrState},
		{n: api.Wide{99}, guess: api.Wide{6}, most: 2, e: api.ErrState},
		{n: api.Wide{}, guess: api.Wide{101}, most: 100, e: api.ErrState},
		{n: api.Wide{10201}, guess: api.Wide{}, most: 100, e: api.ErrState},
		{n: greatest, guess: api.Wide{100, 0, 1}, most: 100, e: api.ErrState},
		{n: greatest, guess: greatestGuess, most: 100, e: api.ErrState},
		// Which error is told first.
		{n: api.Wide{4: 1}, guess: full, most: -1, e: api.ErrArg},
		{n: api.Wide{4: 1}, guess: full, most: 101, e: api.ErrArg},
		{n: api.Wide{4}, guess: api.Wide{2}, most: 101, e: api.ErrArg},
		{n: api.Wide{4: 1}, guess: api.Wide{2: 1}, most: 1, e: api.ErrRange},
		{n: full, guess: api.Wide{}, most: 0, e: api.ErrRange},
		{n: api.Wide{4}, guess: api.Wide{3: 1 << 8}, most: 100, e: api.ErrRange},
		{n: api.Wide{4}, guess: full, most: 100, e: api.ErrRange},
	} {
		if s, r, steps, e := Root(c.n, c.guess, c.most); s != c.s || r != c.r || steps != c.steps || e != c.e {
			t.Errorf("Root(%x, %x, %d): %x, %x, %d, %v", c.n, c.guess, c.most, s, r, steps, e)
		}
	}
}

// places are those of fractions, and those that no wide has.
var places = []int{math.MinInt, math.MinInt + 1, -1 << 32, -512, -3, -2, -1, 0, 1, 2, 63, 64, 127, 128, 255, 256, 300, 509, 510, 511, 512, 513, 1022, 1023, 1024, 1025, 1 << 32, math.MaxInt - 1, math.MaxInt}

// numbers are wides of all lengths, and those at the ends.
func numbers() []*big.Int {
	l := []*big.Int{new(big.Int), big.NewInt(1), big.NewInt(2), big.NewInt(3), ones(63), power(63), ones(64), power(64), ones(128), power(256), power(510), ones(511), power(511), plus(ones(512), -1), ones(512)}
	return append(l, mixed(512)...)
}

func TestTimes(t *testing.T) {
	for _, a := range numbers() {
		for _, b := range numbers() {
			for _, n := range places {
				whole := new(big.Int)
				if n < 1024 {
					whole.Rsh(product(a, b), uint(max(n, 0)))
				}
				if p := Times(fromBig(a), fromBig(b), n); p != fromBig(whole) {
					t.Fatalf("Times(%x, %x, %d): %x, not %x", a, b, n, p, whole)
				}
			}
		}
	}
	for _, c := range []struct {
		a, b api.Wide
		n    int
		p    api.Wide
	}{
		{api.Wide{7}, api.Wide{9}, 3, api.Wide{7}},
		{api.Wide{7}, api.Wide{9}, 0, api.Wide{63}},
		{api.Wide{7}, api.Wide{9}, -1, api.Wide{63}},
		{api.Wide{7}, api.Wide{9}, math.MinInt, api.Wide{63}},
		{api.Wide{7}, api.Wide{9}, 6, api.Wide{}},
		{full, full, 0, api.Wide{1}},
		{full, full, 512, api.Wide{ones64 - 1, ones64, ones64, ones64, ones64, ones64, ones64, ones64}},
		{full, full, 511, api.Wide{ones64 - 3, ones64, ones64, ones64, ones64, ones64, ones64, ones64}},
		{full, full, 1023, api.Wide{1}},
		{full, full, 1024, api.Wide{}},
		{full, full, math.MaxInt, api.Wide{}},
	} {
		if p := Times(c.a, c.b, c.n); p != c.p {
			t.Errorf("Times(%x, %x, %d): %x, not %x", c.a, c.b, c.n, p, c.p)
		}
	}
}

func TestTwo(t *testing.T) {
	for _, a := range numbers() {
		for _, n := range places {
			two := new(big.Int)
			if n >= -1 && n <= 510 {
				two = power(n + 1)
			}
			if b := Two(n, fromBig(a)); b != fromBig(two.Sub(two, a)) {
				t.Fatalf("Two(%d, %x): %x, not %x", n, a, b, two)
			}
		}
	}
	minus3 := api.Wide{ones64 - 2, ones64, ones64, ones64, ones64, ones64, ones64, ones64}
	for _, c := range []struct {
		n    int
		a, b api.Wide
	}{
		{4, api.Wide{3}, api.Wide{29}},
		{4, api.Wide{32}, api.Wide{}},
		{4, api.Wide{35}, minus3},
		{0, api.Wide{1}, api.Wide{1}},
		{-1, api.Wide{1}, api.Wide{}},
		{-1, api.Wide{4}, minus3},
		{-2, api.Wide{3}, minus3},
		{-2, api.Wide{}, api.Wide{}},
		{math.MinInt, api.Wide{3}, minus3},
		{509, api.Wide{}, api.Wide{7: 1 << 62}},
		{510, api.Wide{}, api.Wide{7: 1 << 63}},
		{510, full, api.Wide{0: 1, 7: 1 << 63}},
		{511, api.Wide{}, api.Wide{}},
		{511, full, api.Wide{1}},
		{512, api.Wide{3}, minus3},
		{math.MaxInt, api.Wide{3}, minus3},
	} {
		if b := Two(c.n, c.a); b != c.b {
			t.Errorf("Two(%d, %x): %x, not %x", c.n, c.a, b, c.b)
		}
	}
}

func TestNear(t *testing.T) {
	for _, a := range numbers() {
		others := numbers()
		for _, by := range []int64{1, 2, 7, math.MaxInt32, math.MaxInt} {
			others = append(others, plus(a, by), plus(a, -by), plus(plus(a, by), 1), plus(plus(a, -by), -1))
		}
		for _, b := range others {
			if b.Sign() < 0 || b.BitLen() > 512 {
				continue
			}
			for _, most := range []int{math.MinInt, -1, 0, 1, 2, 3, 6, 7, 8, math.MaxInt32, math.MaxInt - 1, math.MaxInt} {
				apart := new(big.Int).Sub(a, b)
				near := apart.Abs(apart).Cmp(big.NewInt(int64(most))) <= 0
				if Near(fromBig(a), fromBig(b), most) != near || Near(fromBig(b), fromBig(a), most) != near {
					t.Fatalf("Near(%x, %x, %d): not %v", a, b, most, near)
				}
			}
		}
	}
	for _, c := range []struct {
		a, b api.Wide
		most int
		near bool
	}{
		{api.Wide{7}, api.Wide{9}, 2, true},
		{api.Wide{9}, api.Wide{7}, 2, true},
		{api.Wide{9}, api.Wide{7}, 1, false},
		{api.Wide{7}, api.Wide{7}, 0, true},
		{api.Wide{7}, api.Wide{8}, 0, false},
		{api.Wide{7}, api.Wide{7}, -1, false},
		{api.Wide{}, full, -1, false},
		// The ends are not beside each other.
		{api.Wide{}, full, 1, false},
		{full, api.Wide{}, math.MaxInt, false},
		{api.Wide{}, api.Wide{1 << 63}, math.MaxInt, false},
		{api.Wide{}, api.Wide{1<<63 - 1}, math.MaxInt, true},
		{api.Wide{1: 1}, api.Wide{ones64}, 1, true},
		{api.Wide{1: 1}, api.Wide{}, math.MaxInt, false},
	} {
		if near := Near(c.a, c.b, c.most); near != c.near {
			t.Errorf("Near(%x, %x, %d): %v", c.a, c.b, c.most, near)
		}
	}
}
