package speed_test

import (
	"math"
	"math/big"
	"slices"
	"strings"
	"testing"

	"catenary/api"
	"catenary/speed"
)

const (
	greatest = speed.Speed(math.MaxFloat64)
	smallest = speed.Speed(math.SmallestNonzeroFloat64)
)

var (
	nan          = speed.Speed(math.NaN())
	posInf       = speed.Speed(math.Inf(1))
	negInf       = speed.Speed(math.Inf(-1))
	negativeZero = speed.Speed(math.Copysign(0, -1))
)

func above(s speed.Speed) speed.Speed {
	return speed.Speed(math.Nextafter(float64(s), math.Inf(1)))
}

func below(s speed.Speed) speed.Speed {
	return speed.Speed(math.Nextafter(float64(s), math.Inf(-1)))
}

// same also tells the two zeros apart, and takes NaNs as equal.
func same(a, b speed.Speed) bool {
	return a != a && b != b || math.Float64bits(float64(a)) == math.Float64bits(float64(b))
}

func invalid() []speed.Speed {
	odd := speed.Speed(math.Float64frombits(0xfff0000000000001)) // a NaN with its sign set
	return []speed.Speed{nan, odd, negInf, -greatest, -100, -1, -smallest, negativeZero, 0, posInf}
}

func valid() []speed.Speed {
	return []speed.Speed{smallest, 2.2250738585072014e-308, 1e-9, below(0.1), 0.1, 1, 100, 2500, 1e6, 2e7, 1e300, below(greatest), greatest}
}

// P1.1

func TestRight(t *testing.T) {
	for _, s := range valid() {
		if !s.Right() {
			t.Errorf("Right of %v is false", s)
		}
	}
	for _, s := range invalid() {
		if s.Right() {
			t.Errorf("Right of %v is true", s)
		}
	}
}

func TestCost(t *testing.T) {
	for _, c := range []struct {
		s    speed.Speed
		cost uint32
	}{
		{10, 2000000}, {100, 200000}, {1000, 20000}, {2500, 8000}, {10000, 2000}, {1e6, 20},
		// rounded down
		{3, 6666666}, {7, 2857142}, {1.5e7, 1}, {6e6, 3}, {1.1e7, 1},
		// the exact quotient of these is slightly less than a whole number, and the float64 quotient is that number
		{0.2, 100000000}, {0.16, 125000000}, {1.6, 12500000}, {6.4, 3125000},
		// the lower bound
		{1e7, 2}, {above(1e7), 1}, {below(2e7), 1}, {2e7, 1}, {above(2e7), 1}, {3e7, 1}, {1e9, 1}, {1e300, 1}, {greatest, 1},
		// the upper bound
		{above(0.1), 199999999}, {0.1, 200000000}, {below(0.1), 200000000}, {0.05, 200000000},
		// quotients that no uint32 holds, and an infinite one
		{0.004, 200000000}, {1e-9, 200000000}, {1e-300, 200000000}, {smallest, 200000000},
	} {
		if cost, e := c.s.Cost(); cost != c.cost || e != api.OK {
			t.Errorf("Cost of %v is %d, error %d; want %d", c.s, cost, e, c.cost)
		}
	}
	for _, s := range invalid() {
		if cost, e := s.Cost(); cost != 0 || e != api.ErrRange {
			t.Errorf("Cost of %v is %d, error %d; want ErrRange", s, cost, e)
		}
	}
}

func TestCostFallsWithSpeed(t *testing.T) {
	last := uint32(api.MaxCost)
	for s := speed.Speed(1e-3); s < 1e9; s *= 1.0007 {
		cost, e := s.Cost()
		if e != api.OK || cost < 1 || cost > last {
			t.Fatalf("Cost of %v is %d, error %d, after %d", s, cost, e, last)
		}
		last = cost
	}
}

// P1.2

func TestCompare(t *testing.T) {
	ordered := []speed.Speed{nan, negInf, -greatest, -100, -1, -smallest, negativeZero, 0, smallest, 0.1, 1, above(1), 100, greatest, posInf}
	for i, a := range ordered {
		for k, b := range ordered {
			want := 0
			if i < k {
				want = -1
			} else if i > k {
				want = 1
			}
			if got := speed.Compare(a, b); got != want {
				t.Errorf("Compare(%v, %v) is %d; want %d", a, b, got, want)
			}
		}
	}
}

func TestCompareNaNs(t *testing.T) {
	nans := []speed.Speed{nan}
	for _, bits := range []uint64{0x7ff0000000000001, 0x7fffffffffffffff, 0xfff0000000000001, 0xffffffffffffffff} {
		nans = append(nans, speed.Speed(math.Float64frombits(bits)))
	}
	for i, a := range nans {
		for k, b := range nans {
			if got := speed.Compare(a, b); got != 0 {
				t.Errorf("Compare of NaNs %d and %d is %d", i, k, got)
			}
		}
		if speed.Compare(a, negInf) != -1 || speed.Compare(negInf, a) != 1 {
			t.Errorf("NaN %d isn't before negative infinity", i)
		}
	}
}

func TestLeast(t *testing.T) {
	for _, c := range []struct {
		l    []speed.Speed
		want speed.Speed
		ok   bool
	}{
		{nil, 0, false},
		{[]speed.Speed{}, 0, false},
		{invalid(), 0, false},
		{[]speed.Speed{negativeZero}, 0, false},
		{[]speed.Speed{nan}, 0, false},
		{[]speed.Speed{posInf}, 0, false},
		{[]speed.Speed{100}, 100, true},
		{[]speed.Speed{100, 10, 1000}, 10, true},
		{[]speed.Speed{10, 100, 1000}, 10, true},
		{[]speed.Speed{1000, 100, 10}, 10, true},
		{[]speed.Speed{10, 10}, 10, true},
		{[]speed.Speed{posInf, greatest}, greatest, true},
		{[]speed.Speed{greatest, smallest, 0}, smallest, true},
		{append(invalid(), 7), 7, true},
		{append([]speed.Speed{7}, invalid()...), 7, true},
		{[]speed.Speed{nan, 9, negInf, 8, 0, 9}, 8, true},
	} {
		if s, ok := speed.Least(c.l...); !same(s, c.want) || ok != c.ok {
			t.Errorf("Least of %v is %v, %v; want %v, %v", c.l, s, ok, c.want, c.ok)
		}
	}
}

func TestSum(t *testing.T) {
	// 1 is lost beside 1e16, 2 isn't: the order of the additions shows.
	for _, c := range []struct {
		l    []speed.Speed
		want speed.Speed
	}{
		{nil, 0},
		{[]speed.Speed{}, 0},
		{invalid(), 0},
		{[]speed.Speed{negativeZero}, 0},
		{[]speed.Speed{100}, 100},
		{[]speed.Speed{10, 100, 1000}, 1110},
		{[]speed.Speed{nan, 10, posInf, 5, negInf, 0, -4}, 15},
		{append(invalid(), 7), 7},
		{[]speed.Speed{0.1, 0.2}, 0.30000000000000004},
		{[]speed.Speed{0.1, 0.2, 0.3}, 0.6000000000000001},
		{[]speed.Speed{0.3, 0.2, 0.1}, 0.6},
		{[]speed.Speed{1e16, 1, 1}, 1e16},
		{[]speed.Speed{1, 1, 1e16}, 10000000000000002},
		{[]speed.Speed{smallest, smallest}, 1e-323},
		{[]speed.Speed{greatest}, greatest},
		{[]speed.Speed{greatest, 1}, greatest},
		{[]speed.Speed{greatest, greatest}, greatest},
		{[]speed.Speed{greatest, greatest, greatest, 1}, greatest},
		{[]speed.Speed{1e308, 7e307}, 1.7e308},
		{[]speed.Speed{1e308, 1e308}, greatest},
		{[]speed.Speed{1e308, nan, 1e308, posInf, -1e308}, greatest},
	} {
		if s := speed.Sum(c.l...); !same(s, c.want) {
			t.Errorf("Sum of %v is %v; want %v", c.l, s, c.want)
		}
	}
}

func TestListsAreOnlyRead(t *testing.T) {
	whole := []speed.Speed{5, nan, 3, negativeZero, 9, 1, 2}
	before := slices.Clone(whole)
	part := whole[:5]
	if s, ok := speed.Least(part...); s != 3 || !ok {
		t.Errorf("Least of %v is %v, %v", part, s, ok)
	}
	if s := speed.Sum(part...); s != 17 {
		t.Errorf("Sum of %v is %v", part, s)
	}
	if !slices.EqualFunc(whole, before, same) {
		t.Errorf("%v became %v", before, whole)
	}
}

// P1.3

func TestParse(t *testing.T) {
	for _, c := range []struct {
		s    string
		want speed.Speed
	}{
		{"100M", 100}, {"10M", 10}, {"1G", 1000}, {"2.5G", 2500}, {"1T", 1e6}, {"56K", 0.056}, {"1K", 0.001},
		{"1M", 1}, {"9T", 9e6}, {"007M", 7}, {"0.5M", 0.5}, {"00.50M", 0.5}, {"1.0G", 1000}, {"0123456789M", 123456789},
		// the nearest float64, ties to even
		{"0.1M", 0.1}, {"9007199254740993M", 9007199254740992}, {"9007199254740995M", 9007199254740996}, {"9007199254740993.1M", 9007199254740994},
		// the number is rounded ahead of the multiplication, and the product once more
		{"2.01G", 2009.9999999999998}, {"2.03T", 2029999.9999999998}, {"9K", 0.009000000000000001}, {"13K", 0.013000000000000001},
		// 20 bytes
		{"9999999999999999999M", 1e19}, {"9999999999999999999T", 1e25}, {"0000000000000000001M", 1}, {"00000000000000000.1M", 0.1}, {"0.00000000000000001M", 1e-17},
	} {
		if s, e := speed.Parse(c.s); !same(s, c.want) || e != api.OK {
			t.Errorf("Parse of %q is %v, error %d; want %v", c.s, s, e, c.want)
		}
	}
}

func TestParseZero(t *testing.T) {
	for _, s := range []string{"0K", "0M", "0G", "0T", "000M", "0.0M", "00.000G", "0000000000000000000T", "0.00000000000000000K"} {
		if x, e := speed.Parse(s); !same(x, 0) || e != api.ErrRange {
			t.Errorf("Parse of %q is %v, error %d; want ErrRange", s, x, e)
		}
	}
}

func TestParseForm(t *testing.T) {
	for _, s := range []string{
		// too short, too long
		"", "1", "0", "M", ".", "12345678901234567890M", "00000000000000000000M", "0000000000000000000.1M", "1.0000000000000000000M", strings.Repeat("1", 5000) + "M",
		// no letter, another one, more than one, or elsewhere
		"12", "1.5", "100", "1m", "1k", "1g", "1t", "1P", "1B", "1MM", "1KM", "1Mb", "M1", "1M5", "MM", "KK", "0x", "1.K5",
		// the point
		".5M", "5.M", ".M", "..M", "1..2M", "1.2.3M", "1.2.M", ".1.2M", "1.5.", "0.M", ".0M", "1,5M", "1M.", "1.", ".1",
		// what is no digit
		"-1M", "+1M", " 1M", "1 M", "1M ", "1M\n", "1_0M", "1e3M", "1E3M", "0x1M", "0x1p3M", "0b1M", "InfM", "+InfM", "infM", "NaNM", "nanM", "1\x00M", "\x001M", "1/M", "1:M", "/1M", ":1M", "\u0661M", "\u0967\u0968M", "\uff11M", "1\xffM", "1\xff", "1\u041c", "1\u039c", "1\u212a",
		// of both errors, the form's
		"-0M", "0", "00", "0.0", "0m",
	} {
		if x, e := speed.Parse(s); !same(x, 0) || e != api.ErrForm {
			t.Errorf("Parse of %q is %v, error %d; want ErrForm", s, x, e)
		}
	}
}

// expected is what the chapter's words say of a text, by other means: exact fractions.
func expected(s string) (speed.Speed, api.Errno) {
	units := map[byte]float64{'K': 1e-3, 'M': 1, 'G': 1e3, 'T': 1e6}
	if len(s) < 2 || len(s) > 20 || units[s[len(s)-1]] == 0 {
		return 0, api.ErrForm
	}
	digits, number, point := 0, new(big.Rat), -1
	for i, c := range []byte(s[:len(s)-1]) {
		switch {
		case c >= '0' && c <= '9':
			digits++
			number.Add(number.Mul(number, big.NewRat(10, 1)), big.NewRat(int64(c-'0'), 1))
		case c == '.' && point < 0 && i > 0 && i < len(s)-2:
			point = digits
		default:
			return 0, api.ErrForm
		}
	}
	for ; point >= 0 && point < digits; point++ {
		number.Quo(number, big.NewRat(10, 1))
	}
	nearest, _ := number.Float64()
	if x := speed.Speed(nearest * units[s[len(s)-1]]); x > 0 {
		return x, api.OK
	}
	return 0, api.ErrRange
}

func checkExpected(t *testing.T, s string) {
	t.Helper()
	want, wantErr := expected(s)
	if x, e := speed.Parse(s); !same(x, want) || e != wantErr {
		t.Errorf("Parse of %q is %v, error %d; want %v, error %d", s, x, e, want, wantErr)
	}
}

func TestParseShortTexts(t *testing.T) {
	texts := []string{""}
	for range 5 {
		var longer []string
		for _, s := range texts {
			checkExpected(t, s)
			for _, c := range "0129.KMGTe-" {
				longer = append(longer, s+string(c))
			}
		}
		texts = longer
	}
	for a := range 256 {
		for b := range 256 {
			checkExpected(t, string([]byte{byte(a), byte(b)}))
		}
	}
}

func TestParseLongTexts(t *testing.T) {
	state := uint64(1)
	next := func(n uint64) uint64 {
		state = state*6364136223846793005 + 1442695040888963407
		return state >> 33 % n
	}
	for range 50000 {
		b := make([]byte, 1+next(21))
		for i := range b {
			b[i] = byte('0' + next(10))
		}
		if next(3) > 0 {
			b[next(uint64(len(b)))] = '.'
		}
		if next(20) == 0 {
			b[next(uint64(len(b)))] = byte(next(256))
		}
		b[len(b)-1] = "KMGT"[next(4)]
		checkExpected(t, string(b))
	}
}

func FuzzParse(f *testing.F) {
	for _, s := range []string{"2.5G", "0M", ".5M", "9999999999999999999T"} {
		f.Add(s)
	}
	f.Fuzz(checkExpected)
}
