package newtonroot

import (
	"math"
	"math/big"
	"slices"
	"sync"
	"testing"

	"radicand/api"
	"radicand/rom"
)

const ones64 = math.MaxUint64

// full is 2^512 - 1.
var full = api.Wide{ones64, ones64, ones64, ones64, ones64, ones64, ones64, ones64}

// greatest is the greatest number that has a root here, 2^256 - 1, and greatestRoot its root.
var (
	greatest     = api.Wide{ones64, ones64, ones64, ones64}
	greatestRoot = api.Wide{ones64, ones64}
)

func toBig(a api.Wide) *big.Int {
	z := new(big.Int)
	for i := len(a) - 1; i >= 0; i-- {
		z.Lsh(z, 64).Or(z, new(big.Int).SetUint64(a[i]))
	}
	return z
}

// fromBig is z modulo 2^512.
func fromBig(z *big.Int) api.Wide {
	var w api.Wide
	z = new(big.Int).And(z, toBig(full))
	for i := range w {
		w[i] = new(big.Int).And(z, new(big.Int).SetUint64(ones64)).Uint64()
		z.Rsh(z, 64)
	}
	return w
}

func power(n int) *big.Int {
	return new(big.Int).Lsh(big.NewInt(1), uint(n))
}

// ones is as many ones.
func ones(n int) *big.Int {
	return new(big.Int).Sub(power(n), big.NewInt(1))
}

func plus(z *big.Int, n int64) *big.Int {
	return new(big.Int).Add(z, big.NewInt(n))
}

func product(a, b *big.Int) *big.Int {
	return new(big.Int).Mul(a, b)
}

// mixed are numbers of all lengths from 1 to a greatest one.
func mixed(greatest int) []*big.Int {
	var l []*big.Int
	mix := uint64(0x02468ace13579bdf)
	for n := 1; n <= greatest; n += 1 + greatest/50 {
		z := new(big.Int)
		for range 8 {
			mix = mix*6364136223846793005 + 1442695040888963407
			z.Lsh(z, 64).Or(z, new(big.Int).SetUint64(mix^mix>>29))
		}
		l = append(l, z.And(z, ones(n)).SetBit(z, n-1, 1))
	}
	return l
}

// numbers are those that have a root here, squares and those beside them among them, and those that have none.
func numbers() []*big.Int {
	l := []*big.Int{ones(128), power(253), ones(254), power(254), plus(power(254), 1), ones(255), power(255), plus(power(255), 1), plus(ones(256), -1), ones(256),
		power(256), plus(power(256), 1), ones(257), power(257), power(258), power(384), power(511), ones(512)}
	for n := range int64(130) {
		l = append(l, big.NewInt(n))
	}
	for _, s := range append(mixed(128), ones(128), power(127), plus(power(127), 1), ones(64), power(64), ones(127)) {
		square := product(s, s)
		l = append(l, plus(square, -1), square, plus(square, 1), product(s, plus(s, 2)), product(s, plus(s, 1)))
	}
	return append(l, mixed(260)...)
}

// placed are numbers at both ends of each place of the rom's second table: of as many digits as they have at most and at least, of 128 and of 127, and of 64 and of 63.
func placed() []*big.Int {
	var l []*big.Int
	for i := int64(32); i < 128; i++ {
		for _, below := range []int{1, 57, 121, 249} {
			least := new(big.Int).Lsh(big.NewInt(i), uint(below))
			l = append(l, least, new(big.Int).Add(least, ones(below)))
		}
	}
	return l
}

// shifted is a number, shifted up, and by how much.
func shifted(n *big.Int) (*big.Int, uint) {
	by := uint((256 - n.BitLen()) / 2 * 2)
	return new(big.Int).Lsh(n, by), by
}

// reciprocal is the reciprocal of a root behind so many rounds, by the words of the chapters.
func reciprocal(n *big.Int, rounds int) *big.Int {
	up, _ := shifted(n)
	i := new(big.Int).Rsh(up, 249).Int64()
	first := new(big.Int).Quo(power(26), big.NewInt(2*i+1))
	y := new(big.Int).Lsh(first.Sqrt(first), 151)
	three := product(power(160), big.NewInt(3))
	for range rounds {
		square := product(y, y)
		square.Rsh(square, 160)
		near1 := product(square, up)
		near1.Rsh(near1, 256)
		y = product(new(big.Int).Sub(three, near1), y)
		y.Rsh(y, 161)
	}
	return y
}

// guess is the guess for the root of a number that is shifted up.
func guess(n *big.Int) *big.Int {
	up, _ := shifted(n)
	s := product(up, reciprocal(n, 5))
	return s.Rsh(s, 288)
}

// rounds are those that may be asked for, and those that may not.
var rounds = []int{math.MinInt, -1 << 32, -6, -1, 0, 1, 2, 3, 4, 5, 6, 9, 10, 11, 1<<32 + 5, math.MaxInt}

func TestRounds(t *testing.T) {
	if n := Rounds(); n != 5 {
		t.Errorf("Rounds: %d", n)
	}
}

func TestReciprocal(t *testing.T) {
	e := New(nil)
	for _, n := range slices.Concat(numbers(), placed(), mixed(512)) {
		for _, k := range rounds {
			var want api.Wide
			var wantErr api.Errno
			switch {
			case k < 0, k > 10, n.BitLen() > 256:
				wantErr = api.ErrRange
			case n.Sign() == 0:
				wantErr = api.ErrZero
			default:
				want = fromBig(reciprocal(n, k))
			}
			if y, err := e.Reciprocal(fromBig(n), k); y != want || err != wantErr {
				t.Fatalf("Reciprocal(%x, %d): %x, %v, not %x, %v", n, k, y, err, want, wantErr)
			}
		}
	}
}

func TestReciprocalWritten(t *testing.T) {
	e := New(nil)
	// Written out, not reckoned.
	for _, c := range []struct {
		n      api.Wide
		rounds int
		y      api.Wide
		err    api.Errno
	}{
		{api.Wide{1}, 0, api.Wide{2: 0x1fc000000}, api.OK},
		{api.Wide{1}, 1, api.Wide{2: 0x1fff40800}, api.OK},
		{api.Wide{1}, 2, api.Wide{0, 0x90a6511fc0000000, 0x1ffffff94}, api.OK},
		{api.Wide{1}, 3, api.Wide{0x298d6c8f515dcd09, 0xffffde2f4bf50e18, 0x1ffffffff}, api.OK},
		{api.Wide{1}, 4, api.Wide{0xfca6659415eb4e12, ones64, 0x1ffffffff}, api.OK},
		{api.Wide{1}, 5, api.Wide{ones64, ones64, 0x1ffffffff}, api.OK},
		{api.Wide{1}, 10, api.Wide{ones64, ones64, 0x1ffffffff}, api.OK},
		{api.Wide{2}, 0, api.Wide{2: 0x168800000}, api.OK},
		{api.Wide{2}, 1, api.Wide{2: 0x16a076478}, api.OK},
		{api.Wide{2}, 2, api.Wide{0, 0x4868281e6c8ea880, 0x16a09e661}, api.OK},
		{api.Wide{2}, 5, api.Wide{0xea957d3e3adec175, 0xf3bcc908b2fb1366, 0x16a09e667}, api.OK},
		{api.Wide{2}, 10, api.Wide{0xea957d3e3adec175, 0xf3bcc908b2fb1366, 0x16a09e667}, api.OK},
		{api.Wide{3}, 0, api.Wide{2: 0x126800000}, api.OK},
		{api.Wide{3}, 5, api.Wide{0xfb257d06193acddd, 0x0331c4d218f81e4a, 0x1279a7459}, api.OK},
		{api.Wide{4}, 0, api.Wide{2: 0x1fc000000}, api.OK},
		{api.Wide{4}, 4, api.Wide{0xfca6659415eb4e12, ones64, 0x1ffffffff}, api.OK},
		{api.Wide{99}, 4, api.Wide{0x09c76b056990a7e3, 0x73587d7d06ed856d, 0x19ba9da6c}, api.OK},
		{api.Wide{144}, 5, api.Wide{0x5555555555555555, 0x5555555555555555, 0x155555555}, api.OK},
		{api.Wide{3: 1 << 62}, 0, api.Wide{2: 0x1fc000000}, api.OK},
		{api.Wide{3: 1 << 62}, 1, api.Wide{2: 0x1fff40800}, api.OK},
		{api.Wide{3: 1 << 63}, 0, api.Wide{2: 0x168800000}, api.OK},
		{api.Wide{3: 1 << 63}, 1, api.Wide{2: 0x16a076478}, api.OK},
		{greatest, 0, api.Wide{2: 0x100800000}, api.OK},
		{greatest, 1, api.Wide{2: 0xffff9ff0}, api.OK},
		{greatest, 4, api.Wide{0xfffffffffe47d2d6, ones64, 0xffffffff}, api.OK},
		{greatest, 5, api.Wide{2: 0x100000000}, api.OK},
		{n: api.Wide{}, rounds: 0, err: api.ErrZero},
		{n: api.Wide{}, rounds: 10, err: api.ErrZero},
		{n: api.Wide{4: 1}, rounds: 0, err: api.ErrRange},
		{n: api.Wide{0: 4, 7: 1}, rounds: 5, err: api.ErrRange},
		{n: full, rounds: 10, err: api.ErrRange},
		{n: api.Wide{4}, rounds: -1, err: api.ErrRange},
		{n: api.Wide{4}, rounds: 11, err: api.ErrRange},
		// Which error is told first.
		{n: api.Wide{}, rounds: -1, err: api.ErrRange},
		{n: api.Wide{}, rounds: 11, err: api.ErrRange},
		{n: api.Wide{}, rounds: math.MinInt, err: api.ErrRange},
		{n: api.Wide{}, rounds: math.MaxInt, err: api.ErrRange},
		{n: full, rounds: -1, err: api.ErrRange},
	} {
		if y, err := e.Reciprocal(c.n, c.rounds); y != c.y || err != c.err {
			t.Errorf("Reciprocal(%x, %d): %x, %v, not %x, %v", c.n, c.rounds, y, err, c.y, c.err)
		}
	}
}

func TestGuess(t *testing.T) {
	e := New(nil)
	for _, n := range append(numbers(), placed()...) {
		var want api.Wide
		var wantErr api.Errno
		switch {
		case n.BitLen() > 256:
			wantErr = api.ErrRange
		case n.Sign() != 0:
			want = fromBig(guess(n))
		}
		if g, err := e.Guess(fromBig(n)); g != want || err != wantErr {
			t.Fatalf("Guess(%x): %x, %v, not %x, %v", n, g, err, want, wantErr)
		}
	}
	// Written out, not reckoned: guesses are for the root of the number that is shifted up.
	for _, c := range []struct {
		n, g api.Wide
		err  api.Errno
	}{
		{api.Wide{}, api.Wide{}, api.OK},
		{api.Wide{1}, api.Wide{ones64, ones64 >> 1}, api.OK},
		{api.Wide{2}, api.Wide{0x597d89b3754abe9f, 0xb504f333f9de6484}, api.OK},
		{api.Wide{3}, api.Wide{0x92ba16b83c5c1dc4, 0xddb3d742c265539d}, api.OK},
		{api.Wide{4}, api.Wide{ones64, ones64 >> 1}, api.OK},
		{api.Wide{99}, api.Wide{0x59adda992ac81e63, 0x9f32af77f09b3887}, api.OK},
		{api.Wide{144}, api.Wide{ones64, 0xbfffffffffffffff}, api.OK},
		{api.Wide{3: 1 << 62}, api.Wide{ones64, ones64 >> 1}, api.OK},
		{api.Wide{3: 1 << 63}, api.Wide{0x597d89b3754abe9f, 0xb504f333f9de6484}, api.OK},
		{greatest, greatestRoot, api.OK},
		{n: api.Wide{4: 1}, err: api.ErrRange},
		{n: full, err: api.ErrRange},
	} {
		if g, err := e.Guess(c.n); g != c.g || err != c.err {
			t.Errorf("Guess(%x): %x, %v, not %x, %v", c.n, g, err, c.g, c.err)
		}
	}
}

func TestRoot(t *testing.T) {
	e := New(nil)
	for _, n := range append(numbers(), placed()...) {
		want, rest, wantErr := new(big.Int), new(big.Int), api.ErrRange
		if n.BitLen() <= 256 {
			want.Sqrt(n)
			rest.Sub(n, product(want, want))
			wantErr = api.OK
		}
		if s, r, err := e.Root(fromBig(n)); s != fromBig(want) || r != fromBig(rest) || err != wantErr {
			t.Fatalf("Root(%x): %x, %x, %v, not %x, %x, %v", n, s, r, err, want, rest, wantErr)
		}
	}
}

func TestRootWritten(t *testing.T) {
	e := New(nil)
	for _, c := range []struct {
		n, s, r api.Wide
		err     api.Errno
	}{
		{api.Wide{99}, api.Wide{9}, api.Wide{18}, api.OK},
		{api.Wide{100}, api.Wide{10}, api.Wide{}, api.OK},
		{api.Wide{101}, api.Wide{10}, api.Wide{1}, api.OK},
		{api.Wide{}, api.Wide{}, api.Wide{}, api.OK},
		{api.Wide{1}, api.Wide{1}, api.Wide{}, api.OK},
		{api.Wide{2}, api.Wide{1}, api.Wide{1}, api.OK},
		{api.Wide{3}, api.Wide{1}, api.Wide{2}, api.OK},
		{api.Wide{4}, api.Wide{2}, api.Wide{}, api.OK},
		{api.Wide{5}, api.Wide{2}, api.Wide{1}, api.OK},
		{api.Wide{8}, api.Wide{2}, api.Wide{4}, api.OK},
		{api.Wide{9}, api.Wide{3}, api.Wide{}, api.OK},
		{api.Wide{2: 1}, api.Wide{1: 1}, api.Wide{}, api.OK},
		{api.Wide{ones64, ones64}, api.Wide{ones64}, api.Wide{ones64 - 1, 1}, api.OK},
		{api.Wide{1, ones64 - 1}, api.Wide{ones64}, api.Wide{}, api.OK},
		{api.Wide{0, ones64 - 1}, api.Wide{ones64 - 1}, api.Wide{ones64 - 3, 1}, api.OK},
		{api.Wide{3: 1 << 62}, api.Wide{1: 1 << 63}, api.Wide{}, api.OK},
		{api.Wide{3: 1 << 63}, api.Wide{0x597d89b3754abe9f, 0xb504f333f9de6484}, api.Wide{0x0e6fd795e823993f, 0x29a0a230315b1f28}, api.OK},
		{greatest, greatestRoot, api.Wide{ones64 - 1, ones64, 1}, api.OK},
		{api.Wide{1, 0, ones64 - 1, ones64}, greatestRoot, api.Wide{}, api.OK},
		{api.Wide{0, 0, ones64 - 1, ones64}, api.Wide{ones64 - 1, ones64}, api.Wide{ones64 - 3, ones64, 1}, api.OK},
		{n: api.Wide{4: 1}, err: api.ErrRange},
		{n: api.Wide{0: 1, 4: 1}, err: api.ErrRange},
		{n: api.Wide{7: 1 << 63}, err: api.ErrRange},
		{n: full, err: api.ErrRange},
	} {
		if s, r, err := e.Root(c.n); s != c.s || r != c.r || err != c.err {
			t.Errorf("Root(%x): %x, %x, %v, not %x, %x, %v", c.n, s, r, err, c.s, c.r, c.err)
		}
	}
}

// TestNew holds where an engine's guesses come from: from the rom that it is made with, or else from one of its own.
func TestNew(t *testing.T) {
	r, other := rom.New(), rom.New()
	first, second, own := New(r), New(r), New(nil)
	if r.Made() != 0 {
		t.Errorf("New asks the rom for something: %d", r.Made())
	}
	// What has no root here, and 0, needs no guess.
	first.Root(full)
	first.Root(api.Wide{})
	first.Guess(full)
	first.Guess(api.Wide{})
	first.Reciprocal(full, 5)
	first.Reciprocal(api.Wide{}, 5)
	first.Reciprocal(api.Wide{7}, 11)
	own.Root(api.Wide{99})
	if r.Made() != 0 {
		t.Errorf("the rom is asked for something without a root: %d", r.Made())
	}
	for k, e := range []*Engine{first, second, own} {
		if s, left, err := e.Root(api.Wide{99}); s != (api.Wide{9}) || left != (api.Wide{18}) || err != api.OK {
			t.Errorf("the root of 99, by the engine %d: %x, %x, %v", k, s, left, err)
		}
		if r.Made() != 1 {
			t.Errorf("behind a root by the engine %d: %d", k, r.Made())
		}
	}
	if other.Made() != 0 {
		t.Errorf("a rom of nobody's: %d", other.Made())
	}
}

// TestMade holds which calls ask the rom.
func TestMade(t *testing.T) {
	for name, call := range map[string]func(e *Engine){
		"Root":            func(e *Engine) { e.Root(api.Wide{99}) },
		"Root of 1":       func(e *Engine) { e.Root(api.Wide{1}) },
		"Guess":           func(e *Engine) { e.Guess(api.Wide{99}) },
		"Reciprocal":      func(e *Engine) { e.Reciprocal(api.Wide{99}, 5) },
		"Reciprocal at 0": func(e *Engine) { e.Reciprocal(api.Wide{99}, 0) },
	} {
		r := rom.New()
		e := New(r)
		for range 3 {
			call(e)
			if r.Made() != 1 {
				t.Errorf("behind %s: %d", name, r.Made())
			}
		}
	}
}

// TestNil holds that every call of a nil engine is ErrState, and zeros, whatever it is given.
func TestNil(t *testing.T) {
	var e *Engine
	for _, n := range []api.Wide{{}, {1}, {2}, {4}, {99}, {3: 1 << 62}, {3: 1 << 63}, greatest, {4: 1}, full} {
		if s, r, err := e.Root(n); s != (api.Wide{}) || r != (api.Wide{}) || err != api.ErrState {
			t.Errorf("Root(%x) of a nil engine: %x, %x, %v", n, s, r, err)
		}
		if g, err := e.Guess(n); g != (api.Wide{}) || err != api.ErrState {
			t.Errorf("Guess(%x) of a nil engine: %x, %v", n, g, err)
		}
		for _, k := range rounds {
			if y, err := e.Reciprocal(n, k); y != (api.Wide{}) || err != api.ErrState {
				t.Errorf("Reciprocal(%x, %d) of a nil engine: %x, %v", n, k, y, err)
			}
		}
	}
}

// TestSeveral holds that several goroutines may use one engine, and engines that share a rom.
func TestSeveral(t *testing.T) {
	for range 10 {
		r := rom.New()
		shared := New(r)
		var all sync.WaitGroup
		for k := range 8 {
			all.Go(func() {
				for _, e := range []*Engine{shared, New(r)} {
					for i := range 64 {
						use(t, e, plus(power(90), int64((i+8*k)%64)))
					}
				}
			})
		}
		all.Wait()
		if r.Made() != 1 {
			t.Errorf("the rom of several engines: %d", r.Made())
		}
	}
}

// use finds the root of a square and one less, and asks for its reciprocal and for a guess.
func use(t *testing.T, e *Engine, s *big.Int) {
	n := plus(product(s, s), -1)
	left := plus(product(s, big.NewInt(2)), -2)
	if found, r, err := e.Root(fromBig(n)); found != fromBig(plus(s, -1)) || r != fromBig(left) || err != api.OK {
		t.Errorf("Root(%x): %x, %x, %v", n, found, r, err)
	}
	if y, err := e.Reciprocal(fromBig(n), 3); y != fromBig(reciprocal(n, 3)) || err != api.OK {
		t.Errorf("Reciprocal(%x, 3): %x, %v", n, y, err)
	}
	if g, err := e.Guess(fromBig(n)); g != fromBig(guess(n)) || err != api.OK {
		t.Errorf("Guess(%x): %x, %v", n, g, err)
	}
}

// TestTogether holds what follows (P20.3): how near guesses come.
func TestTogether(t *testing.T) {
	e := New(nil)
	for _, n := range append(numbers(), placed()...) {
		if n.BitLen() > 256 {
			continue
		}
		right := new(big.Int)
		if n.Sign() != 0 {
			up, _ := shifted(n)
			right.Sqrt(up)
		}
		g, err := e.Guess(fromBig(n))
		away := new(big.Int).Sub(toBig(g), right)
		if err != api.OK || away.Abs(away).Cmp(big.NewInt(2)) > 0 {
			t.Errorf("Guess(%x): %x, %v is too far away from %x", n, g, err, right)
		}
	}
}
