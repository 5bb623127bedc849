package addr_test

import (
	"fmt"
	"math"
	"math/big"
	"strings"
	"testing"

	"catenary/addr"
	"catenary/api"
)

// samples are addresses of all sorts, among them the reserved ones with their neighbours, and those that differ from them in one bit.
func samples() []api.Mac {
	l := []api.Mac{
		{}, {0, 0, 0, 0, 0, 1}, {0, 0, 0, 0, 0, 255}, {0, 0, 0, 0, 1, 0}, {1}, {2}, {254}, {255},
		{0x0a, 0x1b, 0x2c, 0x3d, 0x4e, 0x5f}, {0x90, 0xa1, 0xb2, 0xc3, 0xd4, 0xe5}, {0x02, 0, 0, 0, 0, 1},
		{0x7f, 0xff, 0xff, 0xff, 0xff, 0xff}, {0x80}, {0xff, 0xff, 0xff, 0xff, 0xff, 0xfe}, addr.Group(), addr.All(),
	}
	for i := range 6 {
		for bit := range 8 {
			m := addr.Group()
			m[i] ^= 1 << bit
			l = append(l, m)
		}
	}
	for low := range 32 {
		l = append(l, api.Mac{0x01, 0x80, 0xc2, 0, 0, byte(low)})
	}
	return l
}

// numberOf is what the chapter says of a number, by other means than the program's.
func numberOf(m api.Mac) uint64 { return new(big.Int).SetBytes(m[:]).Uint64() }

func textOf(m api.Mac) string {
	return fmt.Sprintf("%02x:%02x:%02x:%02x:%02x:%02x", m[0], m[1], m[2], m[3], m[4], m[5])
}

func sign(n int) int { return max(-1, min(n, 1)) }

func mustFail(t *testing.T, s string) {
	t.Helper()
	if m, e := addr.Parse(s); m != (api.Mac{}) || e != api.ErrForm {
		t.Errorf("Parse(%q) returns %v, %v, not no address and ErrForm", s, m, e)
	}
}

// P2.1

func TestGroupAndAll(t *testing.T) {
	if m := addr.Group(); m != (api.Mac{1, 128, 194, 0, 0, 0}) {
		t.Errorf("Group returns %v", m)
	}
	if m := addr.All(); m != (api.Mac{255, 255, 255, 255, 255, 255}) {
		t.Errorf("All returns %v", m)
	}
}

func TestGrouped(t *testing.T) {
	for first := range 256 {
		for _, rest := range []byte{0, 1, 2, 254, 255} {
			m := api.Mac{byte(first), rest, rest, rest, rest, rest}
			if got, want := addr.Grouped(m), first&1 == 1; got != want {
				t.Errorf("Grouped(%v) returns %v", m, got)
			}
		}
	}
	if !addr.Grouped(addr.Group()) || !addr.Grouped(addr.All()) {
		t.Error("the address of all bridges, or of all stations, is no group address")
	}
}

func TestReserved(t *testing.T) {
	for _, c := range []struct {
		m    api.Mac
		want bool
	}{
		{api.Mac{1, 128, 194, 0, 0, 0}, true}, {api.Mac{1, 128, 194, 0, 0, 1}, true}, {api.Mac{1, 128, 194, 0, 0, 8}, true},
		{api.Mac{1, 128, 194, 0, 0, 14}, true}, {api.Mac{1, 128, 194, 0, 0, 15}, true},
		{api.Mac{1, 128, 193, 255, 255, 255}, false}, {api.Mac{1, 128, 194, 0, 0, 16}, false},
		{api.Mac{1, 128, 194, 0, 0, 255}, false}, {api.Mac{1, 128, 194, 0, 1, 0}, false}, {api.Mac{1, 128, 194, 1, 0, 0}, false},
		{api.Mac{1, 128, 195, 0, 0, 0}, false}, {api.Mac{1, 129, 194, 0, 0, 0}, false}, {api.Mac{0, 128, 194, 0, 0, 0}, false},
		{api.Mac{3, 128, 194, 0, 0, 0}, false}, {api.Mac{}, false}, {api.Mac{0, 0, 0, 0, 0, 15}, false}, {addr.All(), false},
	} {
		if got := addr.Reserved(c.m); got != c.want {
			t.Errorf("Reserved(%v) returns %v", c.m, got)
		}
	}
}

func TestReservedIsARangeOfNumbers(t *testing.T) {
	for _, m := range samples() {
		n := numberOf(m)
		if got, want := addr.Reserved(m), n >= 0x0180c2000000 && n <= 0x0180c200000f; got != want {
			t.Errorf("Reserved(%v) returns %v", m, got)
		}
	}
	for last := range 256 {
		if got := addr.Reserved(api.Mac{1, 128, 194, 0, 0, byte(last)}); got != (last < 16) {
			t.Errorf("Reserved with the last byte %d returns %v", last, got)
		}
	}
}

func TestNumber(t *testing.T) {
	for _, c := range []struct {
		m api.Mac
		n uint64
	}{
		{api.Mac{}, 0}, {api.Mac{0, 0, 0, 0, 0, 1}, 1}, {api.Mac{0, 0, 0, 0, 1, 0}, 256}, {api.Mac{0, 0, 1, 0, 0, 0}, 1 << 24},
		{api.Mac{1, 0, 0, 0, 0, 0}, 1 << 40}, {api.Mac{128, 0, 0, 0, 0, 0}, 1 << 47},
		{api.Mac{1, 2, 3, 4, 5, 6}, 0x010203040506}, {addr.Group(), 0x0180c2000000}, {addr.All(), 1<<48 - 1},
	} {
		if n := addr.Number(c.m); n != c.n {
			t.Errorf("Number(%v) returns %#x, not %#x", c.m, n, c.n)
		}
	}
	for _, m := range samples() {
		if n := addr.Number(m); n != numberOf(m) {
			t.Errorf("Number(%v) returns %#x, not %#x", m, n, numberOf(m))
		}
	}
}

func TestOf(t *testing.T) {
	for _, c := range []struct {
		n uint64
		m api.Mac
	}{
		{0, api.Mac{}}, {1, api.Mac{0, 0, 0, 0, 0, 1}}, {255, api.Mac{0, 0, 0, 0, 0, 255}}, {256, api.Mac{0, 0, 0, 0, 1, 0}},
		{0x010203040506, api.Mac{1, 2, 3, 4, 5, 6}}, {0x0180c2000000, addr.Group()}, {1<<48 - 1, addr.All()},
		// what is above 48 bits
		{1 << 48, api.Mac{}}, {1<<48 + 1, api.Mac{0, 0, 0, 0, 0, 1}}, {1 << 63, api.Mac{}}, {0xffff << 48, api.Mac{}},
		{0x8000010203040506, api.Mac{1, 2, 3, 4, 5, 6}}, {1<<49 - 1, addr.All()}, {math.MaxUint64, addr.All()},
	} {
		if m := addr.Of(c.n); m != c.m {
			t.Errorf("Of(%#x) returns %v, not %v", c.n, m, c.m)
		}
	}
}

func TestCompare(t *testing.T) {
	l := samples()
	for _, a := range l {
		for _, b := range l {
			want := new(big.Int).SetBytes(a[:]).Cmp(new(big.Int).SetBytes(b[:]))
			if got := addr.Compare(a, b); got != want {
				t.Errorf("Compare(%v, %v) returns %d, not %d", a, b, got, want)
			}
		}
	}
}

func TestCompareOfOneByte(t *testing.T) {
	for i := range 6 {
		for _, c := range [][2]byte{{0, 1}, {0, 255}, {1, 2}, {127, 128}, {254, 255}, {9, 9}} {
			a := api.Mac{10, 20, 30, 40, 50, 60}
			b := a
			a[i], b[i] = c[0], c[1]
			want := sign(int(c[0]) - int(c[1]))
			if got := addr.Compare(a, b); got != want {
				t.Errorf("Compare(%v, %v) returns %d, not %d", a, b, got, want)
			}
			if got := addr.Compare(b, a); got != -want {
				t.Errorf("Compare(%v, %v) returns %d, not %d", b, a, got, -want)
			}
		}
	}
	if addr.Compare(api.Mac{0, 255, 255, 255, 255, 255}, api.Mac{1}) != -1 || addr.Compare(api.Mac{0, 0, 0, 0, 1, 0}, api.Mac{0, 0, 0, 0, 0, 255}) != 1 {
		t.Error("a byte that follows outweighs one that precedes it")
	}
}

func TestText(t *testing.T) {
	for _, c := range []struct {
		m api.Mac
		s string
	}{
		{addr.Group(), "01:80:c2:00:00:00"}, {addr.All(), "ff:ff:ff:ff:ff:ff"}, {api.Mac{}, "00:00:00:00:00:00"},
		{api.Mac{0x0a, 0x1b, 0x2c, 0x3d, 0x4e, 0x5f}, "0a:1b:2c:3d:4e:5f"}, {api.Mac{0x90, 0xa9, 0xbf, 0xcd, 0xe6, 0xf7}, "90:a9:bf:cd:e6:f7"},
	} {
		if s := addr.Text(c.m); s != c.s {
			t.Errorf("Text(%v) returns %q, not %q", c.m, s, c.s)
		}
		if m, e := addr.Parse(c.s); m != c.m || e != api.OK {
			t.Errorf("Parse(%q) returns %v, %v, not %v", c.s, m, e, c.m)
		}
	}
	for value := range 256 {
		for i := range 6 {
			m := api.Mac{1, 2, 3, 4, 5, 6}
			m[i] = byte(value)
			if s := addr.Text(m); s != textOf(m) {
				t.Errorf("Text(%v) returns %q, not %q", m, s, textOf(m))
			}
		}
	}
}

func TestParseOfOtherLengths(t *testing.T) {
	whole := "0a:1b:2c:3d:4e:5f"
	for n := range len(whole) {
		mustFail(t, whole[:n])
		mustFail(t, whole[n+1:])
		mustFail(t, whole[:n]+whole[n+1:])
		mustFail(t, whole[:n]+"0"+whole[n:])
		mustFail(t, whole[:n]+":"+whole[n:])
	}
	for _, s := range []string{
		whole + "0", whole + ":", whole + ":00", whole + " ", " " + whole, whole + "\n", whole + "\x00", whole + whole, strings.Repeat(whole+":", 1000),
		"a:1b:2c:3d:4e:5f", "0a:1b:2c:3d:4e", "0a1b2c3d4e5f", "a:b:c:d:e:f", "::::::", ":::::", "00a:1b:2c:3d:4e:5f", "[" + whole + "]",
	} {
		mustFail(t, s)
	}
}

// TestParseOfEachByte puts every byte into every place: only a digit may stand in a digit's place, and only a colon between the bytes.
func TestParseOfEachByte(t *testing.T) {
	whole := "0a:1b:2c:3d:4e:5f"
	for place := range len(whole) {
		for value := range 256 {
			text := []byte(whole)
			text[place] = byte(value)
			s := string(text)
			digit := strings.IndexByte("0123456789abcdef", text[place])
			if place%3 == 2 && text[place] != ':' || place%3 != 2 && digit < 0 {
				mustFail(t, s)
				continue
			}
			want := api.Mac{0x0a, 0x1b, 0x2c, 0x3d, 0x4e, 0x5f}
			switch place % 3 {
			case 0:
				want[place/3] = want[place/3]%16 + byte(digit)*16
			case 1:
				want[place/3] = want[place/3]/16*16 + byte(digit)
			}
			if m, e := addr.Parse(s); m != want || e != api.OK {
				t.Errorf("Parse(%q) returns %v, %v, not %v", s, m, e, want)
			}
		}
	}
}

func TestParseOfWrongTexts(t *testing.T) {
	for _, s := range []string{
		"", "00000000000000000", ":::::::::::::::::", "                 ",
		"0A:1b:2c:3d:4e:5f", "0a:1B:2c:3d:4e:5f", "0a:1b:2c:3d:4e:5F", "FF:FF:FF:FF:FF:FF",
		"0a-1b-2c-3d-4e-5f", "0a.1b.2c.3d.4e.5f", "0a 1b 2c 3d 4e 5f", "0a:1b:2c:3d:4e-5f", "0a1b:2c:3d:4e:5f0",
		"g0:00:00:00:00:00", "00:00:00:00:00:0g", "+1:00:00:00:00:00", "-1:00:00:00:00:00", "00:00:00:00:00:+1", "00:00:00:00:00:-0",
		"0x:00:00:00:00:00", "0_:00:00:00:00:00", " 1:00:00:00:00:00", "1 :00:00:00:00:00", "00:00:00:00:00:0\x00",
		"0a:1b:2c:3d:4e:\u00b2", "\u0660:1b:2c:3d:4e:5f", "0a\uff1a1b:2c:3d:4e5", "0a:1b:2c:3d:4e:5\xff",
	} {
		mustFail(t, s)
	}
}

// P2.2

func TestInverses(t *testing.T) {
	for _, m := range samples() {
		if got := addr.Of(addr.Number(m)); got != m {
			t.Errorf("Of the Number of %v is %v", m, got)
		}
		if got, e := addr.Parse(addr.Text(m)); got != m || e != api.OK {
			t.Errorf("Parse of the Text of %v is %v, %v", m, got, e)
		}
	}
	for bit := range 64 {
		for _, n := range []uint64{1 << bit, 1<<bit - 1, ^uint64(0) << bit} {
			if got := addr.Number(addr.Of(n)); got != n%(1<<48) {
				t.Errorf("Number of Of(%#x) is %#x", n, got)
			}
		}
	}
}

func FuzzOf(f *testing.F) {
	f.Add(uint64(0))
	f.Add(uint64(0x0180c200000f))
	f.Add(uint64(math.MaxUint64))
	f.Fuzz(func(t *testing.T, n uint64) {
		m := addr.Of(n)
		if addr.Number(m) != n%(1<<48) || addr.Of(addr.Number(m)) != m {
			t.Errorf("Of(%#x) is %v, whose Number is %#x", n, m, addr.Number(m))
		}
		if got, e := addr.Parse(addr.Text(m)); got != m || e != api.OK {
			t.Errorf("Parse of the Text of %v is %v, %v", m, got, e)
		}
	})
}

// FuzzParse: what is taken is the text of the address that is returned, and nothing else is taken.
func FuzzParse(f *testing.F) {
	for _, s := range []string{"", "01:80:c2:00:00:00", "ff:ff:ff:ff:ff:ff", "0A:1b:2c:3d:4e:5f", "0a-1b-2c-3d-4e-5f", "+1:00:00:00:00:00"} {
		f.Add(s)
	}
	f.Fuzz(func(t *testing.T, s string) {
		m, e := addr.Parse(s)
		switch {
		case e == api.OK && addr.Text(m) != s:
			t.Errorf("Parse(%q) is %v, whose Text is %q", s, m, addr.Text(m))
		case e != api.OK && (e != api.ErrForm || m != api.Mac{}):
			t.Errorf("Parse(%q) returns %v, %v", s, m, e)
		}
	})
}
