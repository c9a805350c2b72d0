package digits

import (
	"math"
	"math/big"
	"strconv"
	"strings"
	"testing"

	"radicand/api"
	"radicand/wide"
)

const top = math.MaxUint64

// beyond is 2^512.
var beyond = new(big.Int).Lsh(big.NewInt(1), 512)

// numbers are wides of all kinds: those around the powers of 16 and of ten, and mixed ones.
func numbers() []api.Wide {
	l := []api.Wide{{}, {1}, {9}, {10}, {15}, {16}, {99}, {0, 1}, {0xabc, 1}, {top}, {top, top}, {7: 1 << 63}, wide.Mask(512), wide.Mask(511)}
	for n := range 512 {
		l = append(l, wide.Power(n), wide.Mask(n))
	}
	for n := range 155 { // 10^154 is the greatest power of ten below 2^512
		z := new(big.Int).Exp(big.NewInt(10), big.NewInt(int64(n)), nil)
		l = append(l, fromBig(z), fromBig(new(big.Int).Sub(z, big.NewInt(1))), fromBig(z.Add(z, big.NewInt(1))))
	}
	mix := uint64(0x0123456789abcdef)
	for n := range 64 {
		var w api.Wide
		for i := range w {
			mix = mix*6364136223846793005 + 1442695040888963407
			w[i] = mix ^ mix>>29
		}
		w, _ = wide.Shr(w, 8*n)
		l = append(l, w)
	}
	return l
}

func toBig(a api.Wide) *big.Int {
	z := new(big.Int)
	for i := len(a) - 1; i >= 0; i-- {
		z.Lsh(z, 64).Or(z, new(big.Int).SetUint64(a[i]))
	}
	return z
}

func fromBig(z *big.Int) api.Wide {
	var w api.Wide
	z = new(big.Int).Set(z)
	for i := range w {
		w[i] = new(big.Int).And(z, new(big.Int).SetUint64(top)).Uint64()
		z.Rsh(z, 64)
	}
	return w
}

func TestWrittenAndRead(t *testing.T) {
	for _, a := range numbers() {
		s := Hex(a)
		if s != toBig(a).Text(16) {
			t.Errorf("Hex(%x): %s", a, s)
		}
		if b, e := ParseHex(s); b != a || e != api.OK {
			t.Errorf("ParseHex(%s): %x, %d", s, b, e)
		}
		s = Decimal(a)
		if s != toBig(a).Text(10) {
			t.Errorf("Decimal(%x): %s", a, s)
		}
		if b, e := ParseDecimal(s); b != a || e != api.OK {
			t.Errorf("ParseDecimal(%s): %x, %d", s, b, e)
		}
	}
}

// none are texts of no number, in whatever base.
var none = []string{"", "00", "01", "000000", "-", "+", "-0", "-1", "+1", "--1", " ", " 1", "1 ", "1 2", "\t1", "1\n", "\n", "0x1", "0x", "1_000", "1.", "1.0", ".5", "1e-5",
	"A", "F", "1A", "ABC", "aBc", "g", "1g", "z", "/", ":", "`", "@", "G", "1/", "1:", "1`", "\x00", "1\x00", "\xff", "1\xff2", "é", "1é", "１", "٣", "1٣", "−1", "²", "𝟙",
	"00ff", "0f", "0 ", "0-", "1-", "1+1", "1,000", "\u00a01", "\ufeff1", "\ufffd", "ł", "1İ", "٠", "Ā"}

func TestWhatIsNone(t *testing.T) {
	for _, s := range none {
		if a, e := ParseHex(s); a != (api.Wide{}) || e != api.ErrForm {
			t.Errorf("ParseHex(%q): %x, %d", s, a, e)
		}
		if a, e := ParseDecimal(s); a != (api.Wide{}) || e != api.ErrForm {
			t.Errorf("ParseDecimal(%q): %x, %d", s, a, e)
		}
	}
	for _, s := range []string{"a", "f", "1a", "10f", "abc", "9f9"} {
		if a, e := ParseDecimal(s); a != (api.Wide{}) || e != api.ErrForm {
			t.Errorf("ParseDecimal(%q): %x, %d", s, a, e)
		}
		if a, e := ParseHex(s); Hex(a) != s || e != api.OK {
			t.Errorf("ParseHex(%q): %x, %d", s, a, e)
		}
	}
	// Each byte alone, and each behind a digit.
	for c := range 256 {
		s := string([]byte{byte(c)})
		ten := c >= '0' && c <= '9'
		hex := ten || c >= 'a' && c <= 'f'
		for _, s := range []string{s, "1" + s} {
			if _, e := ParseDecimal(s); (e == api.OK) != ten || !ten && e != api.ErrForm {
				t.Errorf("ParseDecimal(%q): %d", s, e)
			}
			if _, e := ParseHex(s); (e == api.OK) != hex || !hex && e != api.ErrForm {
				t.Errorf("ParseHex(%q): %d", s, e)
			}
		}
	}
}

func TestAroundTheEnd(t *testing.T) {
	last := new(big.Int).Sub(beyond, big.NewInt(1))
	for _, c := range []struct {
		base int
		read func(string) (api.Wide, api.Errno)
	}{{16, ParseHex}, {10, ParseDecimal}} {
		if a, e := c.read(last.Text(c.base)); a != wide.Mask(512) || e != api.OK {
			t.Errorf("2^512 - 1 in base %d: %x, %d", c.base, a, e)
		}
		// 2^512 ends on 6 in tens: there only the last digit makes the step past the end, not the product.
		tooGreat := []string{beyond.Text(c.base), new(big.Int).Add(beyond, big.NewInt(1)).Text(c.base), new(big.Int).Lsh(beyond, 1).Text(c.base),
			new(big.Int).Lsh(beyond, 512).Text(c.base), new(big.Int).Mul(beyond, beyond).Text(c.base), last.Text(c.base) + "0", last.Text(c.base) + "9",
			"1" + strings.Repeat("0", 155), "1" + strings.Repeat("0", 10000), strings.Repeat("9", 100000)}
		if c.base == 16 {
			tooGreat[7] = "1" + strings.Repeat("0", 128)
		}
		for _, s := range tooGreat {
			if a, e := c.read(s); a != (api.Wide{}) || e != api.ErrRange {
				t.Errorf("%.40s.. in base %d: %x, %d", s, c.base, a, e)
			}
			// What is no text of a number stays so, however long it is ahead of what is wrong.
			for _, bad := range []string{s + "g", s + " ", s + "A", s + "é", "0" + s, "-" + s, s + "\xff"} {
				if a, e := c.read(bad); a != (api.Wide{}) || e != api.ErrForm {
					t.Errorf("%.40s.. in base %d, no number: %x, %d", bad, c.base, a, e)
				}
			}
		}
	}
}

func TestWord(t *testing.T) {
	words := []api.Word{{}, {Lo: 1}, {Hi: 1}, {Hi: top, Lo: top}, {Hi: 9, Lo: 0xabcd1}, {Hi: 0x0123456789abcdef, Lo: 0xfedcba9876543210}, {Hi: 1 << 63}, {Lo: 1 << 63}}
	for _, w := range words {
		all := toBig(wide.From(w)).Text(16)
		all = strings.Repeat("0", 32-len(all)) + all
		for bits := 4; bits <= 128; bits += 4 {
			s := Word(w, bits)
			if s != all[32-bits/4:] {
				t.Errorf("Word(%x, %d): %s", w, bits, s)
			}
			want := fromBig(new(big.Int).And(toBig(wide.From(w)), toBig(wide.Mask(bits))))
			if got, e := ParseWord(s, bits); got != wide.Low(want) || e != api.OK {
				t.Errorf("ParseWord(%s, %d): %x, %d", s, bits, got, e)
			}
		}
	}
}

func TestWordOfOtherBits(t *testing.T) {
	w := api.Word{Hi: 1, Lo: 2}
	other := []int{0, -4, -1, -128, math.MinInt, math.MaxInt, 132, 129, 256, 1 << 16, 1 << 40, 1<<62 + 4}
	for bits := range 140 {
		if bits%4 != 0 || bits > 128 {
			other = append(other, bits)
		}
	}
	for _, bits := range other {
		if s := Word(w, bits); s != "" {
			t.Errorf("Word of %d bits: %s", bits, s)
		}
		// The bits go ahead of what is wrong with the text.
		for _, s := range []string{"", "0", "0001", "g", "00000000000000010000000000000002", strings.Repeat("0", 33)} {
			if got, e := ParseWord(s, bits); got != (api.Word{}) || e != api.ErrArg {
				t.Errorf("ParseWord(%q, %d): %x, %d", s, bits, got, e)
			}
		}
	}
}

func TestNoWord(t *testing.T) {
	for bits := 4; bits <= 128; bits += 4 {
		n := bits / 4
		ones := strings.Repeat("1", n)
		bad := []string{"", ones + "1", ones + "0", "0" + ones, ones[1:], ones[1:] + "g", ones[1:] + "A", ones[1:] + " ", " " + ones[1:], "-" + ones[1:], "+" + ones[1:],
			"F" + ones[1:], ones[1:] + "\xff", ones[1:] + "\n", ones[1:] + "é", ones + "é", ones[1:] + "١", strings.Repeat("1", 1000)}
		if n > 1 {
			bad = append(bad, ones[2:]+"é", "0x"+ones[2:], "é"+ones[2:])
		}
		for _, s := range bad {
			if got, e := ParseWord(s, bits); got != (api.Word{}) || e != api.ErrForm {
				t.Errorf("ParseWord(%q, %d): %x, %d", s, bits, got, e)
			}
		}
		if got, e := ParseWord(strings.Repeat("0", n), bits); got != (api.Word{}) || e != api.OK {
			t.Errorf("the word of noughts of %d bits: %x, %d", bits, got, e)
		}
		if got, e := ParseWord(strings.Repeat("f", n), bits); got != wide.Low(wide.Mask(bits)) || e != api.OK {
			t.Errorf("the word of ones of %d bits: %x, %d", bits, got, e)
		}
	}
}

func TestInt(t *testing.T) {
	l := []int{0, 1, -1, 9, -9, 10, -10, 99, 100, -100, math.MaxInt32, math.MinInt32, math.MaxInt - 1, math.MaxInt, math.MinInt + 1, math.MinInt}
	for n := range 63 {
		l = append(l, 1<<n, -1<<n, 1<<n-1)
	}
	for _, n := range l {
		if s := Int(n); s != strconv.Itoa(n) {
			t.Errorf("Int(%d): %s", n, s)
		}
		if got, e := ParseInt(strconv.Itoa(n)); got != n || e != api.OK {
			t.Errorf("ParseInt(%d): %d, %d", n, got, e)
		}
	}
}

func TestNoInt(t *testing.T) {
	for _, s := range []string{"9223372036854775808", "-9223372036854775809", "9223372036854775809", "18446744073709551615", "18446744073709551616", "-18446744073709551616",
		"-18446744073709551615", "27670116110564327424", "-340282366920938463463374607431768211456", beyond.Text(10), "-" + beyond.Text(10), "1" + strings.Repeat("0", 5000),
		"-1" + strings.Repeat("0", 5000)} {
		if n, e := ParseInt(s); n != 0 || e != api.ErrRange {
			t.Errorf("ParseInt(%.40s): %d, %d", s, n, e)
		}
	}
	for _, s := range none {
		if s == "-1" {
			continue
		}
		if n, e := ParseInt(s); n != 0 || e != api.ErrForm {
			t.Errorf("ParseInt(%q): %d, %d", s, n, e)
		}
	}
	for _, s := range []string{"-00", "-01", "- 1", "-1 ", "--0", "-+1", "+-1", "-a", "a", "-1a", "1-", "-1-", "-9223372036854775809x", "x9223372036854775808",
		"-0" + beyond.Text(10), "-" + beyond.Text(10) + "é", "--" + beyond.Text(10), "−1"} {
		if n, e := ParseInt(s); n != 0 || e != api.ErrForm {
			t.Errorf("ParseInt(%.40q): %d, %d", s, n, e)
		}
	}
}

func TestExamples(t *testing.T) {
	if s := Hex(wide.Power(64)); s != "10000000000000000" {
		t.Error("Hex of 2^64", s)
	}
	if s := Decimal(wide.Power(64)); s != "18446744073709551616" {
		t.Error("Decimal of 2^64", s)
	}
	if Hex(api.Wide{}) != "0" || Decimal(api.Wide{}) != "0" || Int(0) != "0" {
		t.Error("0 is 0")
	}
}
