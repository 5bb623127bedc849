package ident_test

import (
	"fmt"
	"math"
	"slices"
	"strings"
	"testing"

	"catenary/api"
	"catenary/ident"
)

// macs are addresses of all sorts, among them those with one bit only, and with all but one.
func macs() []api.Mac {
	l := []api.Mac{
		{}, {0, 0, 0, 0, 0, 1}, {2, 0, 0, 0, 0, 1}, {1, 2, 3, 4, 5, 6}, {0x01, 0x80, 0xc2, 0, 0, 0},
		{0xfe, 0xdc, 0xba, 0x98, 0x76, 0x54}, {0xff, 0xff, 0xff, 0xff, 0xff, 0xff},
	}
	for i := range 48 {
		one := api.Mac{}
		one[i/8] = 1 << (i % 8)
		other := api.Mac{0xff, 0xff, 0xff, 0xff, 0xff, 0xff}
		other[i/8] ^= one[i/8]
		l = append(l, one, other)
	}
	return l
}

// heads are the first 16 bits of identifiers: those at which the text gets longer, with their neighbours, and those with one bit.
func heads() []int {
	l := []int{0, 1, 9, 10, 15, 16, 17, 159, 160, 255, 256, 257, 4095, 4096, 4097, 0x89ab, 0xcdef, 61440, 61441, 65534, 65535}
	for i := range 16 {
		l = append(l, 1<<i)
	}
	return l
}

// layout returns the identifier with its first 16 bits and an address, by other means than the program's.
func layout(head int, m api.Mac) api.BridgeID {
	n := api.BridgeID(head)
	for _, b := range m {
		n = n*256 + api.BridgeID(b)
	}
	return n
}

// textOf returns the text of these, by other means than the program's.
func textOf(head int, m api.Mac) string {
	return fmt.Sprintf("%x-%02x:%02x:%02x:%02x:%02x:%02x", head, m[0], m[1], m[2], m[3], m[4], m[5])
}

func mustFail(t *testing.T, s string) {
	t.Helper()
	if b, e := ident.Parse(s); b != 0 || e != api.ErrForm {
		t.Errorf("Parse(%.60q) returns %x, %d, not 0 and ErrForm", s, b, e)
	}
}

func mustParse(t *testing.T, s string, want api.BridgeID) {
	t.Helper()
	if b, e := ident.Parse(s); b != want || e != api.OK {
		t.Errorf("Parse(%q) returns %x, %d, not %x", s, b, e, want)
	}
}

func TestStepsAndLimits(t *testing.T) {
	if ident.BridgeStep != 4096 || ident.BridgeMost != 61440 || ident.PortStep != 16 || ident.PortMost != 240 {
		t.Error(ident.BridgeStep, ident.BridgeMost, ident.PortStep, ident.PortMost)
	}
}

// P5.1: Bridge, Priority, Mac

func TestBridgeWrittenOut(t *testing.T) {
	for _, c := range []struct {
		priority int
		m        api.Mac
		want     api.BridgeID
	}{
		{0, api.Mac{}, 0},
		{0, api.Mac{1, 2, 3, 4, 5, 6}, 0x0000_0102_0304_0506},
		{4096, api.Mac{}, 0x1000_0000_0000_0000},
		{4096, api.Mac{0x90, 0xa1, 0xb2, 0xc3, 0xd4, 0xe5}, 0x1000_90a1_b2c3_d4e5},
		{32768, api.Mac{2, 0, 0, 0, 0, 1}, 0x8000_0200_0000_0001},
		{61440, api.Mac{0xff, 0xff, 0xff, 0xff, 0xff, 0xff}, 0xf000_ffff_ffff_ffff},
	} {
		b, e := ident.Bridge(c.priority, c.m)
		if b != c.want || e != api.OK {
			t.Errorf("Bridge(%d, %x) returns %x, %d, not %x", c.priority, c.m, b, e, c.want)
		}
		if ident.Priority(b) != c.priority || ident.Mac(b) != c.m {
			t.Errorf("%x has the priority %d and the address %x", b, ident.Priority(b), ident.Mac(b))
		}
	}
}

func TestBridgeOfEveryPriority(t *testing.T) {
	for step := range 16 {
		for _, m := range macs() {
			b, e := ident.Bridge(step*4096, m)
			if b != layout(step*4096, m) || e != api.OK {
				t.Errorf("Bridge(%d, %x) returns %x, %d", step*4096, m, b, e)
			}
			if ident.Priority(b) != step*4096 || ident.Mac(b) != m {
				t.Errorf("%x has the priority %d and the address %x", b, ident.Priority(b), ident.Mac(b))
			}
		}
	}
}

func TestBridgeOfAnyNumber(t *testing.T) {
	m := api.Mac{1, 2, 3, 4, 5, 6}
	right := []int{0, 4096, 8192, 12288, 16384, 20480, 24576, 28672, 32768, 36864, 40960, 45056, 49152, 53248, 57344, 61440}
	for priority := -70000; priority <= 140000; priority++ {
		b, e := ident.Bridge(priority, m)
		if slices.Contains(right, priority) {
			if b != layout(priority, m) || e != api.OK {
				t.Errorf("Bridge(%d) returns %x, %d", priority, b, e)
			}
		} else if b != 0 || e != api.ErrRange {
			t.Errorf("Bridge(%d) returns %x, %d", priority, b, e)
		}
	}
}

// Numbers whose lowest bits alone would be a priority, and the ends of their kind.
func TestBridgeOfFarNumbers(t *testing.T) {
	for _, priority := range []int{
		math.MinInt, math.MinInt + 4096, math.MaxInt, math.MaxInt - 4095, -1 << 32, 1 << 16, 1<<16 + 4096, 1 << 31, 1 << 32, 1<<32 + 4096, 1 << 48, 1<<62 + 4096,
	} {
		if b, e := ident.Bridge(priority, api.Mac{2}); b != 0 || e != api.ErrRange {
			t.Errorf("Bridge(%d) returns %x, %d", priority, b, e)
		}
	}
}

// The twelve bits behind the priority belong neither to it nor to the address.
func TestPriorityAndMacOfAnyIdentifier(t *testing.T) {
	for head := range 65536 {
		for _, m := range []api.Mac{{}, {1, 2, 3, 4, 5, 6}, {0xff, 0xff, 0xff, 0xff, 0xff, 0xff}} {
			b := layout(head, m)
			if p := ident.Priority(b); p != head-head%4096 {
				t.Errorf("the priority of %x is %d", b, p)
			}
			if got := ident.Mac(b); got != m {
				t.Errorf("the address of %x is %x", b, got)
			}
		}
	}
	for _, m := range macs() {
		for _, head := range heads() {
			if b := layout(head, m); ident.Mac(b) != m || ident.Priority(b) != head/4096*4096 {
				t.Errorf("%x has the priority %d and the address %x", b, ident.Priority(b), ident.Mac(b))
			}
		}
	}
}

// P5.1: Port, PortPriority, PortNumber

func TestPortWrittenOut(t *testing.T) {
	for _, c := range []struct {
		priority, number int
		want             api.PortID
	}{
		{0, 1, 0x0001}, {0, 4095, 0x0fff}, {16, 1, 0x1001}, {16, 4095, 0x1fff},
		{128, 3, 0x8003}, {128, 0x234, 0x8234}, {240, 1, 0xf001}, {240, 4095, 0xffff},
	} {
		p, e := ident.Port(c.priority, c.number)
		if p != c.want || e != api.OK {
			t.Errorf("Port(%d, %d) returns %x, %d, not %x", c.priority, c.number, p, e, c.want)
		}
		if ident.PortPriority(p) != c.priority || ident.PortNumber(p) != c.number {
			t.Errorf("%x has the priority %d and the number %d", p, ident.PortPriority(p), ident.PortNumber(p))
		}
	}
}

func TestPortOfAnyPriority(t *testing.T) {
	right := []int{0, 16, 32, 48, 64, 80, 96, 112, 128, 144, 160, 176, 192, 208, 224, 240}
	for priority := -600; priority <= 70000; priority++ {
		for _, number := range []int{1, 8, 4095} {
			p, e := ident.Port(priority, number)
			if slices.Contains(right, priority) {
				if int(p) != priority*256+number || e != api.OK {
					t.Errorf("Port(%d, %d) returns %x, %d", priority, number, p, e)
				}
			} else if p != 0 || e != api.ErrRange {
				t.Errorf("Port(%d, %d) returns %x, %d", priority, number, p, e)
			}
		}
	}
}

func TestPortOfAnyNumber(t *testing.T) {
	for _, priority := range []int{0, 16, 128, 240} {
		for number := -5000; number <= 70000; number++ {
			p, e := ident.Port(priority, number)
			if 0 < number && number < 4096 {
				if int(p) != priority*256+number || e != api.OK {
					t.Errorf("Port(%d, %d) returns %x, %d", priority, number, p, e)
				}
			} else if p != 0 || e != api.ErrRange {
				t.Errorf("Port(%d, %d) returns %x, %d", priority, number, p, e)
			}
		}
	}
}

func TestPortOfFarNumbers(t *testing.T) {
	for _, n := range []int{math.MinInt, math.MinInt + 1, math.MinInt + 16, math.MaxInt, math.MaxInt - 15, -1 << 32, 1 << 16, 1<<16 + 16, 1 << 32, 1<<32 + 1, 1<<32 + 16} {
		for _, c := range [][2]int{{n, 1}, {0, n}, {n, n}, {n, 0}, {8, n}} {
			if p, e := ident.Port(c[0], c[1]); p != 0 || e != api.ErrRange {
				t.Errorf("Port(%d, %d) returns %x, %d", c[0], c[1], p, e)
			}
		}
	}
}

func TestPriorityAndNumberOfEveryPortIdentifier(t *testing.T) {
	for n := range 65536 {
		p := api.PortID(n)
		if ident.PortPriority(p) != n/4096*16 || ident.PortNumber(p) != n%4096 {
			t.Errorf("%x has the priority %d and the number %d", p, ident.PortPriority(p), ident.PortNumber(p))
		}
		if n%4096 == 0 {
			continue
		}
		if again, e := ident.Port(ident.PortPriority(p), ident.PortNumber(p)); again != p || e != api.OK {
			t.Errorf("%x becomes %x, %d", p, again, e)
		}
	}
}

// P5.2

func TestTextWrittenOut(t *testing.T) {
	for _, c := range []struct {
		b api.BridgeID
		s string
	}{
		{0x8000_0200_0000_0001, "8000-02:00:00:00:00:01"},
		{0, "0-00:00:00:00:00:00"},
		{0x0000_0102_0304_0506, "0-01:02:03:04:05:06"},
		{0x0001_0000_0000_0000, "1-00:00:00:00:00:00"},
		{0x000f_ffff_ffff_ffff, "f-ff:ff:ff:ff:ff:ff"},
		{0x0010_0000_0000_000a, "10-00:00:00:00:00:0a"},
		{0x0fff_0a1b_2c3d_4e5f, "fff-0a:1b:2c:3d:4e:5f"},
		{0x1000_90a1_b2c3_d4e5, "1000-90:a1:b2:c3:d4:e5"},
		{0xf000_0000_0000_0000, "f000-00:00:00:00:00:00"},
		{0xffff_ffff_ffff_ffff, "ffff-ff:ff:ff:ff:ff:ff"},
	} {
		if s := ident.Text(c.b); s != c.s {
			t.Errorf("Text(%x) returns %q, not %q", c.b, s, c.s)
		}
		mustParse(t, c.s, c.b)
	}
}

func TestTextOfEveryHead(t *testing.T) {
	m := api.Mac{0x0a, 0x1b, 0x2c, 0x3d, 0x4e, 0x5f}
	for head := range 65536 {
		b := layout(head, m)
		if s := ident.Text(b); s != textOf(head, m) {
			t.Errorf("Text(%x) returns %q", b, s)
		}
		mustParse(t, textOf(head, m), b)
	}
}

func TestTextOfAddresses(t *testing.T) {
	for _, head := range heads() {
		for _, m := range macs() {
			b := layout(head, m)
			if s := ident.Text(b); s != textOf(head, m) {
				t.Errorf("Text(%x) returns %q", b, s)
			}
			mustParse(t, textOf(head, m), b)
		}
	}
}

func TestParseOfUnnecessaryZeros(t *testing.T) {
	for _, head := range heads() {
		for zeros := 1; zeros <= 20; zeros++ {
			mustFail(t, strings.Repeat("0", zeros)+textOf(head, api.Mac{2, 0, 0, 0, 0, 1}))
		}
	}
	mustFail(t, strings.Repeat("0", 100000)+"1-02:00:00:00:00:01")
}

func TestParseOfWrongHeads(t *testing.T) {
	for _, head := range []string{
		"", "00", "0000", "01", "0f", "00ff", "08000", "10000", "ffff0", "0ffff", "12345", "100000000", "10000000000000000", "ffffffffffffffffffffffff",
		"A", "F", "aB", "Ba", "FFFF", "fffF", "80A0", "g", "z", "8g00", "G",
		"+1", "-1", "+", "-", "--", "0x1", "0X1", "x1", "1_0", "_1", "1_", "8.0", "1e+1", "0b1", "0o7",
		" ", " 1", "1 ", "\t1", "1\n", "\n", "1:", ":1", "1\x00", "\x00", "\xff", "\u0661", "\uff11", "\u00e9",
	} {
		mustFail(t, head+"-02:00:00:00:ab:cd")
	}
}

func TestParseOfWrongAddresses(t *testing.T) {
	for _, m := range []string{
		"", "0", "00", "02", "02:00:00:00:ab", "02:00:00:00:ab:", "02:00:00:00:ab:c", "2:0:0:0:ab:cd", "02:00:00:00:ab:cd:ef", ":02:00:00:00:ab:cd",
		"02:00:00:00:AB:cd", "02:00:00:00:ab:cD", "02-00-00-00-ab-cd", "02:00:00:00:ab-cd", "02.00.00.00.ab.cd", "02000000abcd", "02:00:00:00:ab:cg", "02:00:00:00:ab:+1",
		" 02:00:00:00:ab:cd", "02:00:00:00:ab:cd ", "02:00:00:00:ab:cd\n", "02:00:00:00:ab:cd\x00", "02:00:00:00:ab:cd-", "-02:00:00:00:ab:cd",
		"02:00:00:00:ab:cd-02:00:00:00:ab:cd", "1-02:00:00:00:ab:cd",
	} {
		mustFail(t, "1000-"+m)
		mustFail(t, "0-"+m)
	}
}

func TestParseOfWrongForms(t *testing.T) {
	whole := "8a0c-02:00:00:00:ab:cd"
	for _, s := range []string{
		"", "-", "--", "8a0c", "8a0c-", "-02:00:00:00:ab:cd", "02:00:00:00:ab:cd", "8a0c02:00:00:00:ab:cd", "8a0c:02:00:00:00:ab:cd", "8a0c 02:00:00:00:ab:cd",
		"8a0c_02:00:00:00:ab:cd", "8a0c.02:00:00:00:ab:cd", "8a0c--02:00:00:00:ab:cd", "8a-0c-02:00:00:00:ab:cd", "8a0c - 02:00:00:00:ab:cd", "8a0c\u201302:00:00:00:ab:cd",
		"02:00:00:00:ab:cd-8a0c", whole + whole, whole + "-" + whole, "(" + whole + ")", "\ufeff" + whole,
	} {
		mustFail(t, s)
	}
	for _, more := range []string{" ", "\t", "\n", "\r\n", "\x00", "-", ":", "+", "0", "f", "x", "\xff"} {
		mustFail(t, more+whole)
		mustFail(t, whole+more)
	}
	for n := range len(whole) {
		mustFail(t, whole[:n])
	}
	mustFail(t, strings.Repeat(whole, 10000))
}

// parseAgain reads a text by other means than the program's, byte by byte.
func parseAgain(s string) (api.BridgeID, bool) {
	const lower = "0123456789abcdef"
	end := len(s) - len("-02:00:00:00:ab:cd")
	if end < 1 || end > 4 || s[end] != '-' || s[0] == '0' && end > 1 {
		return 0, false
	}
	b := api.BridgeID(0)
	for i := range len(s) {
		behind := i - end
		if behind == 0 {
			continue
		}
		if behind > 0 && behind%3 == 0 {
			if s[i] != ':' {
				return 0, false
			}
			continue
		}
		digit := strings.IndexByte(lower, s[i])
		if digit < 0 {
			return 0, false
		}
		b = b*16 + api.BridgeID(digit)
	}
	return b, true
}

func checkParse(t *testing.T, s string) {
	t.Helper()
	want, ok := parseAgain(s)
	if !ok {
		mustFail(t, s)
		return
	}
	mustParse(t, s, want)
	if again := ident.Text(want); again != s {
		t.Errorf("Text(%x) returns %q, not %q", want, again, s)
	}
}

// Every byte in every place, put for another, put ahead of it, and one left out.
func TestParseOfChangedTexts(t *testing.T) {
	for _, whole := range []string{"0-02:00:00:00:ab:cd", "a-00:00:00:00:00:00", "10-02:00:00:00:ab:cd", "8a0-02:00:00:00:ab:cd", "8a0c-02:00:00:00:ab:cd"} {
		for i := range whole {
			checkParse(t, whole[:i]+whole[i+1:])
			for c := range 256 {
				one := string([]byte{byte(c)})
				checkParse(t, whole[:i]+one+whole[i+1:])
				checkParse(t, whole[:i]+one+whole[i:])
			}
		}
	}
}

func FuzzParse(f *testing.F) {
	for _, s := range []string{"", "-", "0-00:00:00:00:00:00", "8000-02:00:00:00:00:01", "ffff-ff:ff:ff:ff:ff:ff", "0f-02:00:00:00:ab:cd", "F-02:00:00:00:ab:cd", "1--02:00:00:00:ab:cd"} {
		f.Add(s)
	}
	f.Fuzz(checkParse)
}

func FuzzText(f *testing.F) {
	for _, n := range []uint64{0, 1, 0xffff, 1 << 47, 1 << 48, 1 << 52, 1 << 60, 0x8000_0200_0000_0001, math.MaxUint64} {
		f.Add(n)
	}
	f.Fuzz(func(t *testing.T, n uint64) {
		b := api.BridgeID(n)
		mustParse(t, ident.Text(b), b)
		made, e := ident.Bridge(ident.Priority(b), ident.Mac(b))
		if e != api.OK || made != b&0xf000_ffff_ffff_ffff {
			t.Errorf("of %x is made %x, %d", b, made, e)
		}
	})
}
