package table

import (
	"math"
	"math/big"
	"testing"

	"radicand/api"
	"radicand/wide"
)

const ones64 = math.MaxUint64

// full is 2^512 - 1.
var full = api.Wide{ones64, ones64, ones64, ones64, ones64, ones64, ones64, ones64}

// noRows are those beside the rows, those that are rows if their upper bits are lost, and those far away.
var noRows = []int{7, 16, 0, 1, 6, 17, -1, -8, -15, 100, 1<<32 + 8, 8 - 1<<32, 1<<62 + 8, math.MaxInt, math.MinInt, math.MinInt + 8}

func TestRow(t *testing.T) {
	if i, ok := Row(api.Wide{}); i != 0 || ok {
		t.Errorf("Row(0): %d, %v", i, ok)
	}
	row := func(d api.Wide, want int) {
		if i, ok := Row(d); i != want || !ok {
			t.Errorf("Row(%x): %d, %v, not %d", d, i, ok, want)
		}
	}
	for d, want := range map[uint64]int{1: 8, 2: 8, 3: 12, 4: 8, 5: 10, 6: 12, 7: 14, 8: 8, 9: 9, 15: 15, 16: 8, 17: 8, 18: 9, 31: 15, 0xd0: 13, 0xdf: 13, 0xe0: 14, 100: 12, ones64: 15, ones64 >> 1: 15, 1 << 63: 8} {
		row(wide.Of(d), want)
	}
	row(full, 15)
	row(api.Wide{7: 1 << 63}, 8)
	row(api.Wide{ones64, ones64, ones64, ones64, ones64, ones64, ones64, 1<<63 | 1<<60 - 1}, 8)
	for n := range 512 {
		row(wide.Power(n), 8)
		below, _ := wide.Sub(wide.Power(n+1), wide.Of(1))
		row(below, []int{8, 12, 14, 15}[min(n, 3)])
	}
	// A row goes from its four digits, with 0 behind them, to those, with 1 behind them.
	for i := 8; i <= 15; i++ {
		for n := range 509 {
			low := wide.Shl(wide.Of(uint64(i)), n)
			row(low, i)
			high, _ := wide.Add(low, wide.Mask(n))
			row(high, i)
		}
	}
}

// whole is the least whole number that isn't below n / 3.
func whole(n int) int {
	for b := -1000; ; b++ {
		if 3*b >= n {
			return b
		}
	}
}

func TestBounds(t *testing.T) {
	for i := 8; i <= 15; i++ {
		want := [4]int{whole(4 * (i + 1)), whole(i + 1), whole(-2 * i), whole(-5 * i)}
		if b, ok := Bounds(i); b != want || !ok {
			t.Errorf("Bounds(%d): %v, %v, not %v", i, b, ok, want)
		}
	}
	if b, ok := Bounds(8); b != [4]int{12, 3, -5, -13} || !ok {
		t.Errorf("Bounds of the example: %v, %v", b, ok)
	}
	for _, i := range noRows {
		if b, ok := Bounds(i); b != [4]int{} || ok {
			t.Errorf("Bounds(%d): %v, %v", i, b, ok)
		}
	}
	// Whoever changes an answer changes no other one.
	b, _ := Bounds(8)
	b[0] = 99
	if again, _ := Bounds(8); again[0] != 12 {
		t.Errorf("an answer is shared: %v", again)
	}
}

// far are values of what is left that lie far away from all bounds.
var far = map[int]int{1000: 2, 1 << 32: 2, math.MaxInt: 2, -1000: -2, -1 << 32: -2, math.MinInt: -2, math.MinInt + 1: -2}

// digitAt holds a digit call, of its bounds, at each bound, one below it, in between, and far away.
func digitAt(t *testing.T, name string, bounds [4]int, digit func(y int) (int, bool)) {
	t.Helper()
	at := func(y, want int) {
		if k, ok := digit(y); k != want || !ok {
			t.Errorf("%s of %d: %d, %v, not %d", name, y, k, ok, want)
		}
	}
	for place, bound := range bounds {
		at(bound, 2-place)
		at(bound-1, 1-place)
	}
	for y, want := range far {
		at(y, want)
	}
	for y := bounds[3] - 5; y <= bounds[0]+5; y++ {
		want := -2
		for place := 3; place >= 0; place-- {
			if bounds[place] <= y {
				want = 2 - place
			}
		}
		at(y, want)
	}
}

func TestDigit(t *testing.T) {
	for i := 8; i <= 15; i++ {
		bounds, _ := Bounds(i)
		digitAt(t, "Digit", bounds, func(y int) (int, bool) { return Digit(i, y) })
	}
	// Written out, not by Bounds.
	for y, want := range map[int]int{12: 2, 11: 1, 3: 1, 2: 0, 0: 0, -5: 0, -6: -1, -13: -1, -14: -2} {
		if k, ok := Digit(8, y); k != want || !ok {
			t.Errorf("Digit(8, %d): %d, %v", y, k, ok)
		}
	}
	for y, want := range map[int]int{22: 2, 21: 1, 6: 1, 5: 0, -10: 0, -11: -1, -25: -1, -26: -2} {
		if k, ok := Digit(15, y); k != want || !ok {
			t.Errorf("Digit(15, %d): %d, %v", y, k, ok)
		}
	}
	for _, i := range noRows {
		for _, y := range []int{math.MinInt, -100, -1, 0, 1, 12, 100, math.MaxInt} {
			if k, ok := Digit(i, y); k != 0 || ok {
				t.Errorf("Digit(%d, %d): %d, %v", i, y, k, ok)
			}
		}
	}
}

// squareBig is (2 k - 1)^2 times 4^(1 - j), rounded down. Beyond the step 100 it is taken for that step's.
func squareBig(k, j int) int {
	z := big.NewInt(int64(4 * (2*k - 1) * (2*k - 1)))
	return int(z.Div(z, new(big.Int).Exp(big.NewInt(4), big.NewInt(int64(min(j, 100))), nil)).Int64())
}

// steps are steps from 0 on.
var steps = []int{0, 1, 2, 3, 4, 5, 15, 16, 31, 32, 33, 63, 64, 65, 127, 128, 1 << 31, 1 << 32, 1<<32 + 1, 1<<61 + 1, 1 << 62, 1<<62 + 2, 1<<63 - 2, math.MaxInt}

// noSteps are steps below 0.
var noSteps = []int{-1, -2, -3, -64, -1 << 32, 1 - 1<<32, math.MinInt, math.MinInt + 1}

// noRoots are no roots so far.
var noRoots = []int{27, 65, 0, 1, 26, 66, -1, -28, -64, 1000, 1<<32 + 40, 40 - 1<<32, math.MaxInt, math.MinInt, math.MinInt + 40}

func TestRootBounds(t *testing.T) {
	for _, j := range steps {
		for s := 28; s <= 64; s++ {
			var want [4]int
			for place, k := range []int{2, 1, 0, -1} {
				want[place] = (2*k-1)*s + squareBig(k, j)
			}
			if b, ok := RootBounds(j, s); b != want || !ok {
				t.Errorf("RootBounds(%d, %d): %v, %v, not %v", j, s, b, ok, want)
			}
		}
	}
	// Written out, not reckoned.
	for _, c := range []struct {
		j, s int
		b    [4]int
	}{
		{0, 64, [4]int{228, 68, -60, -156}},
		{0, 28, [4]int{120, 32, -24, -48}},
		{1, 64, [4]int{201, 65, -63, -183}},
		{1, 28, [4]int{93, 29, -27, -75}},
		{2, 40, [4]int{122, 40, -40, -118}},
		{2, 28, [4]int{86, 28, -28, -82}},
		{3, 40, [4]int{120, 40, -40, -120}},
		{3, 64, [4]int{192, 64, -64, -192}},
		{63, 28, [4]int{84, 28, -28, -84}},
		{math.MaxInt, 50, [4]int{150, 50, -50, -150}},
	} {
		if b, ok := RootBounds(c.j, c.s); b != c.b || !ok {
			t.Errorf("RootBounds(%d, %d): %v, %v", c.j, c.s, b, ok)
		}
	}
}

func TestRootDigit(t *testing.T) {
	for _, j := range steps {
		for s := 28; s <= 64; s++ {
			bounds, _ := RootBounds(j, s)
			digitAt(t, "RootDigit", bounds, func(y int) (int, bool) { return RootDigit(j, s, y) })
		}
	}
	// Written out, not by RootBounds.
	for y, want := range map[int]int{228: 2, 227: 1, 68: 1, 67: 0, -60: 0, -61: -1, -156: -1, -157: -2} {
		if k, ok := RootDigit(0, 64, y); k != want || !ok {
			t.Errorf("RootDigit(0, 64, %d): %d, %v", y, k, ok)
		}
	}
	for y, want := range map[int]int{84: 2, 83: 1, 28: 1, 27: 0, -28: 0, -29: -1, -84: -1, -85: -2} {
		if k, ok := RootDigit(9, 28, y); k != want || !ok {
			t.Errorf("RootDigit(9, 28, %d): %d, %v", y, k, ok)
		}
	}
}

// TestRootOfNone holds wrong steps, wrong roots so far, and both.
func TestRootOfNone(t *testing.T) {
	none := func(j, s int) {
		if b, ok := RootBounds(j, s); b != [4]int{} || ok {
			t.Errorf("RootBounds(%d, %d): %v, %v", j, s, b, ok)
		}
		for _, y := range []int{math.MinInt, -200, -1, 0, 1, 200, math.MaxInt} {
			if k, ok := RootDigit(j, s, y); k != 0 || ok {
				t.Errorf("RootDigit(%d, %d, %d): %d, %v", j, s, y, k, ok)
			}
		}
	}
	for _, j := range noSteps {
		for _, s := range append([]int{28, 40, 64}, noRoots...) {
			none(j, s)
		}
	}
	for _, j := range steps {
		for _, s := range noRoots {
			none(j, s)
		}
	}
}

// TestTogether holds what follows (P14.3): divisors and numbers go in steps of a 96th of a sixteenth, so that two thirds of a divisor are met just.
func TestTogether(t *testing.T) {
	const fine = 96
	for i := 8; i <= 15; i++ {
		for d := i * fine; d < (i+1)*fine; d++ {
			for y := -8 * d / 3; 3*y <= 8*d; y++ {
				down := y / fine
				if y < down*fine {
					down--
				}
				k, ok := Digit(i, down)
				if left := 3 * (y - k*d); !ok || left < -2*d || left > 2*d {
					t.Fatalf("%d of %d, %d of %d, the digit %d: %d thirds", y, fine, d, fine, k, left)
				}
			}
		}
	}
}
