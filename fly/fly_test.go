package fly

import (
	"math"
	"math/big"
	"slices"
	"testing"

	"radicand/api"
	"radicand/wide"
)

const ones64 = math.MaxUint64

// full is 2^512 - 1.
var full = api.Wide{ones64, ones64, ones64, ones64, ones64, ones64, ones64, ones64}

// strangers are no digits: those beside the digits, those that are digits if their upper bits are lost, and those far away.
var strangers = []int{4, -4, 5, -5, 8, -8, 255, 256, -256, 1 << 32, 1<<32 + 1, -1 << 32, 1<<62 + 2, math.MaxInt, math.MinInt, math.MinInt + 1}

func toBig(a api.Wide) *big.Int {
	z := new(big.Int)
	for i := len(a) - 1; i >= 0; i-- {
		z.Lsh(z, 64).Or(z, new(big.Int).SetUint64(a[i]))
	}
	return z
}

// fromBig is z modulo 2^512, also of a z below 0.
func fromBig(z *big.Int) api.Wide {
	var w api.Wide
	z = new(big.Int).And(z, toBig(full))
	for i := range w {
		w[i] = new(big.Int).And(z, new(big.Int).SetUint64(ones64)).Uint64()
		z.Rsh(z, 64)
	}
	return w
}

// raised is a power of 4.
func raised(n int) *big.Int {
	return new(big.Int).Lsh(big.NewInt(1), uint(2*n))
}

func plus(z *big.Int, n int64) *big.Int {
	return new(big.Int).Add(z, big.NewInt(n))
}

// numberBig is the number of digits: the sum of each one times what it is worth.
func numberBig(l []int) *big.Int {
	z := new(big.Int)
	for i, digit := range l {
		z.Add(z, new(big.Int).Mul(big.NewInt(int64(digit)), raised(len(l)-1-i)))
	}
	return z
}

// mixer tells numbers without a rule to be seen, always the same ones.
func mixer() func() uint64 {
	mix := uint64(0x0123456789abcdef)
	return func() uint64 {
		mix = mix*6364136223846793005 + 1442695040888963407
		return mix ^ mix>>29
	}
}

// numbers are of all lengths, those near to powers of 4, those whose digits are all 3, or all 1 or 2, and others.
func numbers() []*big.Int {
	l := []*big.Int{toBig(full), plus(toBig(full), -1), plus(toBig(full), -2)}
	for n := range int64(300) {
		l = append(l, big.NewInt(n))
	}
	next := mixer()
	for n := range 257 {
		p := raised(n)
		third := new(big.Int).Div(p, big.NewInt(3))
		l = append(l, plus(p, -2), plus(p, -1), p, plus(p, 1), third, plus(third, 1), new(big.Int).Lsh(third, 1), plus(new(big.Int).Lsh(third, 1), 1))
		z := new(big.Int)
		for range 8 {
			z.Lsh(z, 64).Or(z, new(big.Int).SetUint64(next()))
		}
		l = append(l, z.And(z, plus(p, -1)))
	}
	return slices.DeleteFunc(l, func(z *big.Int) bool { return z.Sign() < 0 || z.BitLen() > 512 })
}

// lists are lists of digits: none, each one alone, all of three, and longer ones, up to those whose number is far beyond 2^512.
func lists() [][]int {
	l := [][]int{nil, {}}
	for a := -3; a <= 3; a++ {
		l = append(l, []int{a})
		for b := -3; b <= 3; b++ {
			for c := -3; c <= 3; c++ {
				l = append(l, []int{a, b, c})
			}
		}
	}
	next := mixer()
	for n := 4; n <= 600; n += 1 + n/9 {
		mixed := make([]int, n)
		for i := range mixed {
			mixed[i] = int(next()%7) - 3
		}
		l = append(l, mixed, slices.Repeat([]int{3}, n), slices.Repeat([]int{-3}, n), append([]int{1}, make([]int, n)...), append(make([]int, n), -1))
	}
	for n := 254; n <= 258; n++ {
		l = append(l, append([]int{1}, make([]int, n)...), append([]int{-1}, make([]int, n)...), append(append([]int{2}, make([]int, n)...), -3), slices.Repeat([]int{3}, n))
	}
	return l
}

func TestNew(t *testing.T) {
	for _, q := range numbers() {
		s := New(fromBig(q))
		if s.Q != fromBig(q) || s.Less != fromBig(plus(q, -1)) {
			t.Errorf("New(%x): %x", q, s)
		}
	}
	// Written out, not reckoned.
	for _, c := range []struct{ q, less api.Wide }{
		{api.Wide{}, full},
		{api.Wide{1}, api.Wide{}},
		{api.Wide{5}, api.Wide{4}},
		{api.Wide{1: 1}, api.Wide{ones64}},
		{full, api.Wide{ones64 - 1, ones64, ones64, ones64, ones64, ones64, ones64, ones64}},
	} {
		if s := New(c.q); s != (State{Q: c.q, Less: c.less}) {
			t.Errorf("New(%x): %x", c.q, s)
		}
	}
}

func TestNext(t *testing.T) {
	for _, q := range numbers() {
		for digit := -3; digit <= 3; digit++ {
			s, ok := Next(New(fromBig(q)), digit)
			want := plus(new(big.Int).Lsh(q, 2), int64(digit))
			if !ok || s.Q != fromBig(want) || s.Less != fromBig(plus(want, -1)) {
				t.Errorf("Next(New(%x), %d): %x, %v", q, digit, s, ok)
			}
		}
	}
	states := []State{{}, New(api.Wide{}), New(full), New(api.Wide{7}), {api.Wide{1}, api.Wide{100}}, {full, api.Wide{}}, {api.Wide{3: 9}, full}}
	for _, s := range states {
		for _, digit := range strangers {
			if again, ok := Next(s, digit); ok || again != s {
				t.Errorf("Next(%x, %d): %x, %v", s, digit, again, ok)
			}
		}
	}
}

// TestNextOfOthers holds which of the two numbers each one is made of, where they aren't neighbours.
func TestNextOfOthers(t *testing.T) {
	s := State{Q: api.Wide{1000}, Less: api.Wide{5}}
	for digit, want := range map[int]State{
		-3: {api.Wide{21}, api.Wide{20}},
		-2: {api.Wide{22}, api.Wide{21}},
		-1: {api.Wide{23}, api.Wide{22}},
		0:  {api.Wide{4000}, api.Wide{23}},
		1:  {api.Wide{4001}, api.Wide{4000}},
		2:  {api.Wide{4002}, api.Wide{4001}},
		3:  {api.Wide{4003}, api.Wide{4002}},
	} {
		if n, ok := Next(s, digit); !ok || n != want {
			t.Errorf("Next(%x, %d): %x, %v, not %x", s, digit, n, ok, want)
		}
	}
	// What is above 2^512 is lost, of each of the two.
	s = State{Q: api.Wide{0: 1, 7: 1 << 62}, Less: api.Wide{0: 2, 7: 3 << 62}}
	for digit, want := range map[int]State{
		-3: {api.Wide{9}, api.Wide{8}},
		0:  {api.Wide{4}, api.Wide{11}},
		3:  {api.Wide{7}, api.Wide{6}},
	} {
		if n, ok := Next(s, digit); !ok || n != want {
			t.Errorf("Next(%x, %d): %x, %v, not %x", s, digit, n, ok, want)
		}
	}
	next := mixer()
	for range 200 {
		s := State{Q: wide.Of(next(), next(), next(), next(), next(), next(), next(), next()), Less: wide.Of(next(), next(), next(), next(), next(), next(), next(), next())}
		q, less := new(big.Int).Lsh(toBig(s.Q), 2), new(big.Int).Lsh(toBig(s.Less), 2)
		for digit := int64(-3); digit <= 3; digit++ {
			var want State
			switch {
			case digit > 0:
				want = State{fromBig(plus(q, digit)), fromBig(plus(q, digit-1))}
			case digit == 0:
				want = State{fromBig(q), fromBig(plus(less, 3))}
			default:
				want = State{fromBig(plus(less, 4+digit)), fromBig(plus(less, 3+digit))}
			}
			if n, ok := Next(s, int(digit)); !ok || n != want {
				t.Errorf("Next(%x, %d): %x, %v, not %x", s, digit, n, ok, want)
			}
		}
	}
}

func TestConvert(t *testing.T) {
	for _, l := range lists() {
		a, ok := Convert(l...)
		if want := fromBig(numberBig(l)); !ok || a != want {
			t.Errorf("Convert(%v): %x, %v, not %x", l, a, ok, want)
		}
	}
	// Written out, not reckoned.
	for _, c := range []struct {
		l []int
		a api.Wide
	}{
		{nil, api.Wide{}},
		{[]int{3}, api.Wide{3}},
		{[]int{-3}, api.Wide{ones64 - 2, ones64, ones64, ones64, ones64, ones64, ones64, ones64}},
		{[]int{1, -1, 2}, api.Wide{14}},
		{[]int{-1, 3}, full},
		{[]int{1, -3, -3, -1}, api.Wide{3}},
		{[]int{0, 0, 0, 1, -3}, api.Wide{1}},
		{append([]int{1}, make([]int, 32)...), api.Wide{1: 1}},
		{append([]int{1}, make([]int, 255)...), api.Wide{7: 1 << 62}},
		{append([]int{3}, make([]int, 256)...), api.Wide{}},
		{slices.Repeat([]int{3}, 256), full},
		{slices.Repeat([]int{3}, 400), full},
		{append(make([]int, 1000), 2), api.Wide{2}},
	} {
		if a, ok := Convert(c.l...); !ok || a != c.a {
			t.Errorf("Convert(%v): %x, %v", c.l, a, ok)
		}
	}
}

func TestConvertOfNone(t *testing.T) {
	for _, digit := range strangers {
		for _, n := range []int{1, 2, 3, 65, 300} {
			for _, place := range []int{0, n / 2, n - 1} {
				l := slices.Repeat([]int{2}, n)
				l[place] = digit
				if a, ok := Convert(l...); ok || a != (api.Wide{}) {
					t.Errorf("Convert with %d at %d of %d: %x, %v", digit, place, n, a, ok)
				}
			}
		}
	}
}

// needed is how many digits from -1 to 2 a number needs: as many as 2 and no more reach it.
func needed(a *big.Int) int {
	n := 0
	for reach := new(big.Int); reach.Cmp(a) < 0; n++ {
		reach.Lsh(reach, 2)
		reach.Add(reach, big.NewInt(2))
	}
	return n
}

func TestRecode(t *testing.T) {
	for _, a := range numbers() {
		need := needed(a)
		for _, n := range []int{need - 1, need, need + 1, 258, 300, 301} {
			l, ok := Recode(fromBig(a), n)
			if want := n >= need && n <= 300; ok != want {
				t.Errorf("Recode(%x, %d): %v", a, n, ok)
			}
			if !ok {
				if len(l) != 0 {
					t.Errorf("Recode(%x, %d): %v beside a false", a, n, l)
				}
				continue
			}
			// No other digits from -1 to 2 have this number: the last one is told by it modulo 4.
			if len(l) != n || slices.ContainsFunc(l, func(digit int) bool { return digit < -1 || digit > 2 }) || numberBig(l).Cmp(a) != 0 {
				t.Errorf("Recode(%x, %d): %v", a, n, l)
			}
		}
	}
	for _, n := range []int{math.MinInt, -1 << 32, -300, -1, 301, 302, 1 << 32, 1<<32 + 5, math.MaxInt} {
		for _, a := range []api.Wide{{}, {1}, {14}, full} {
			if l, ok := Recode(a, n); ok || len(l) != 0 {
				t.Errorf("Recode(%x, %d): %v, %v", a, n, l, ok)
			}
		}
	}
}

// TestRecodeWritten holds digits that are written out, not reckoned.
func TestRecodeWritten(t *testing.T) {
	for _, c := range []struct {
		a  api.Wide
		n  int
		l  []int
		ok bool
	}{
		{api.Wide{}, 0, nil, true},
		{api.Wide{}, 1, []int{0}, true},
		{api.Wide{}, 300, make([]int, 300), true},
		{api.Wide{1}, 0, nil, false},
		{api.Wide{1}, 1, []int{1}, true},
		{api.Wide{2}, 1, []int{2}, true},
		{api.Wide{3}, 1, nil, false},
		{api.Wide{3}, 2, []int{1, -1}, true},
		{api.Wide{14}, 2, nil, false},
		{api.Wide{14}, 3, []int{1, -1, 2}, true},
		{api.Wide{14}, 5, []int{0, 0, 1, -1, 2}, true},
		{api.Wide{42}, 3, []int{2, 2, 2}, true},
		{api.Wide{43}, 3, nil, false},
		{api.Wide{43}, 4, []int{1, -1, -1, -1}, true},
		{api.Wide{63}, 3, nil, false},
		{api.Wide{63}, 4, []int{1, 0, 0, -1}, true},
		{api.Wide{0xdb}, 5, []int{1, -1, 2, -1, -1}, true},
		{api.Wide{1: 1}, 33, append([]int{1}, make([]int, 32)...), true},
		{api.Wide{1: 1}, 32, nil, false},
		{api.Wide{0xaaaaaaaaaaaaaaaa, 0xaaaaaaaaaaaaaaaa, 0xaaaaaaaaaaaaaaaa, 0xaaaaaaaaaaaaaaaa, 0xaaaaaaaaaaaaaaaa, 0xaaaaaaaaaaaaaaaa, 0xaaaaaaaaaaaaaaaa, 0xaaaaaaaaaaaaaaaa}, 256, slices.Repeat([]int{2}, 256), true},
		{api.Wide{0xaaaaaaaaaaaaaaab, 0xaaaaaaaaaaaaaaaa, 0xaaaaaaaaaaaaaaaa, 0xaaaaaaaaaaaaaaaa, 0xaaaaaaaaaaaaaaaa, 0xaaaaaaaaaaaaaaaa, 0xaaaaaaaaaaaaaaaa, 0xaaaaaaaaaaaaaaaa}, 256, nil, false},
		// What is left is 3 modulo 4 again and again.
		{api.Wide{0xaaaaaaaaaaaaaaab, 0xaaaaaaaaaaaaaaaa, 0xaaaaaaaaaaaaaaaa, 0xaaaaaaaaaaaaaaaa, 0xaaaaaaaaaaaaaaaa, 0xaaaaaaaaaaaaaaaa, 0xaaaaaaaaaaaaaaaa, 0xaaaaaaaaaaaaaaaa}, 257, append([]int{1}, slices.Repeat([]int{-1}, 256)...), true},
		{full, 1, nil, false},
		{full, 256, nil, false},
		{full, 257, append(append([]int{1}, make([]int, 255)...), -1), true},
		{full, 300, append(append(make([]int, 43), 1), append(make([]int, 255), -1)...), true},
		{full, 301, nil, false},
	} {
		if l, ok := Recode(c.a, c.n); ok != c.ok || !slices.Equal(l, c.l) {
			t.Errorf("Recode(%x, %d): %v, %v", c.a, c.n, l, ok)
		}
	}
	// Whoever changes one answer changes no other one.
	l, _ := Recode(api.Wide{14}, 3)
	l[0] = 5
	if again, _ := Recode(api.Wide{14}, 3); again[0] != 1 {
		t.Errorf("an answer is shared: %v", again)
	}
}

func TestTurn(t *testing.T) {
	for _, l := range append(lists(), strangers) {
		kept := slices.Clone(l)
		turned := Turn(l...)
		if !slices.Equal(l, kept) || len(turned) != len(l) {
			t.Fatalf("Turn(%v): %v, of what was %v", l, turned, kept)
		}
		for i, digit := range l {
			if want := 0 - digit; turned[i] != want {
				t.Errorf("Turn(%v): at %d %d", l, i, turned[i])
			}
		}
	}
	if l := Turn(); len(l) != 0 {
		t.Errorf("Turn(): %v", l)
	}
	want := []int{-1, 2, 0, -3, 4, -1 << 40, math.MinInt, -math.MaxInt, math.MaxInt}
	l := []int{1, -2, 0, 3, -4, 1 << 40, math.MinInt, math.MaxInt, -math.MaxInt}
	turned := Turn(l...)
	if !slices.Equal(turned, want) {
		t.Errorf("Turn(%v): %v", l, turned)
	}
	turned[0] = 77
	if l[0] != 1 {
		t.Errorf("an answer is what was handed in: %v", l)
	}
}

// TestSpare holds that what is handed in isn't changed, its spare room neither.
func TestSpare(t *testing.T) {
	room := []int{1, -1, 2, 9, 9, 9}
	Convert(room[:3]...)
	Turn(room[:3]...)
	if !slices.Equal(room, []int{1, -1, 2, 9, 9, 9}) {
		t.Errorf("what was handed in: %v", room)
	}
}

// TestTogether holds what follows (P13.3).
func TestTogether(t *testing.T) {
	for _, z := range numbers() {
		a := fromBig(z)
		for _, n := range []int{needed(z), 258, 300} {
			l, _ := Recode(a, n)
			if back, ok := Convert(l...); !ok || back != a {
				t.Errorf("%x in %d digits, converted: %x, %v", a, n, back, ok)
			}
			if back, ok := Convert(Turn(l...)...); !ok || back != wide.Neg(a) {
				t.Errorf("%x in %d digits, turned: %x, %v", a, n, back, ok)
			}
		}
	}
}
