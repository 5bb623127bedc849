package ether_test

import (
	"bytes"
	"encoding/binary"
	"reflect"
	"slices"
	"testing"

	"catenary/api"
	"catenary/ether"
)

// bridges is the address of all bridges, stations that of all stations, both written out.
var (
	bridges  = api.Mac{0x01, 0x80, 0xc2, 0x00, 0x00, 0x00}
	stations = api.Mac{0xff, 0xff, 0xff, 0xff, 0xff, 0xff}
	near     = api.Mac{0x02, 0x13, 0x24, 0x35, 0x46, 0x57}
	far      = api.Mac{0xfe, 0xdc, 0xba, 0x98, 0x76, 0x54}
)

// filled returns bytes of which none is 0 and each differs from its neighbours.
func filled(n int) []byte {
	b := make([]byte, n)
	for i := range b {
		b[i] = byte(i%255 + 1)
	}
	return b
}

// sizes are those of Bodies, with the edges.
var sizes = []int{0, 1, 2, 3, 44, 45, 46, 47, 48, 255, 256, 257, 1499, 1500}

// types are those that a frame may have, with the edges.
var types = []uint16{0, 1536, 1537, 0x0800, 0x86dd, 0xff00, 65534, 65535}

// wrongTypes are neither 0 nor a type.
var wrongTypes = []uint16{1, 2, 60, 255, 256, 1499, 1500, 1501, 1534, 1535}

// layout returns the bytes of fields, with 0 up to 60, by other means than the program's.
func layout(to, from api.Mac, number int, body []byte) []byte {
	b := slices.Concat(to[:], from[:], binary.BigEndian.AppendUint16(nil, uint16(number)), body)
	return append(b, make([]byte, max(0, 60-len(b)))...)
}

// frames are right ones, of all types and sizes.
func frames() []ether.Frame {
	l := []ether.Frame{}
	for _, typ := range types {
		for _, size := range sizes {
			l = append(l,
				ether.Frame{To: far, From: near, Type: typ, Body: filled(size)},
				ether.Frame{To: bridges, From: far, Type: typ, Body: make([]byte, size)},
				ether.Frame{To: stations, From: api.Mac{}, Type: typ, Body: filled(size)})
		}
	}
	return l
}

// wrongFrames are such as can't be encoded, each for one reason at least.
func wrongFrames() []ether.Frame {
	l := []ether.Frame{
		{To: far, From: bridges},
		{To: far, From: stations},
		{To: far, From: api.Mac{1}},
		{To: far, From: api.Mac{3, 0, 0, 0, 0, 1}, Type: 0x0800, Body: filled(46)},
		{To: far, From: near, Body: filled(1501)},
		{To: far, From: near, Body: filled(1514)},
		{To: far, From: near, Body: filled(65536)},
		{To: far, From: near, Body: filled(65536 + 46)},
		{To: far, From: near, Type: 0x0800, Body: filled(1501)},
		{To: far, From: bridges, Type: 1, Body: filled(1501)},
	}
	for _, typ := range wrongTypes {
		l = append(l,
			ether.Frame{To: far, From: near, Type: typ},
			ether.Frame{To: far, From: near, Type: typ, Body: filled(int(typ))})
	}
	return l
}

func mustRead(t *testing.T, b []byte, want ether.Frame) {
	t.Helper()
	f, e := ether.Read(b)
	if e != api.OK {
		t.Errorf("Read of %d bytes %.20x.. returns the error %d", len(b), b, e)
	}
	if f.To != want.To || f.From != want.From || f.Type != want.Type || !bytes.Equal(f.Body, want.Body) {
		t.Errorf("Read of %d bytes %.20x.. returns %v, not %v", len(b), b, f, want)
	}
}

// mustFail checks the error, and that no field of the frame is set.
func mustFail(t *testing.T, b []byte, want api.Errno) {
	t.Helper()
	f, e := ether.Read(b)
	if e != want {
		t.Errorf("Read of %d bytes %.20x.. returns the error %d, not %d", len(b), b, e, want)
	}
	if f.To != (api.Mac{}) || f.From != (api.Mac{}) || f.Type != 0 || len(f.Body) != 0 {
		t.Errorf("Read of %d bytes %.20x.. returns %v with an error", len(b), b, f)
	}
}

func TestSizesOfFrames(t *testing.T) {
	if ether.Least != 60 || ether.Most != 1514 {
		t.Error(ether.Least, ether.Most)
	}
}

// P4.1: Right

func TestRight(t *testing.T) {
	for _, f := range frames() {
		if !f.Right() {
			t.Errorf("from %x, type %d, %d bytes: not right", f.From, f.Type, len(f.Body))
		}
	}
	for _, f := range wrongFrames() {
		if f.Right() {
			t.Errorf("from %x, type %d, %d bytes: right", f.From, f.Type, len(f.Body))
		}
	}
}

func TestRightOfEveryType(t *testing.T) {
	for typ := range 65536 {
		f := ether.Frame{From: near, Type: uint16(typ), Body: []byte{1}}
		if f.Right() != (typ == 0 || typ >= 1536) {
			t.Errorf("type %d: %t", typ, f.Right())
		}
	}
}

// A group address is told by the lowest bit of the first byte alone; To may be any.
func TestRightOfEveryFirstByte(t *testing.T) {
	for first := range 256 {
		m := api.Mac{byte(first), 1, 1, 1, 1, 1}
		if f := (ether.Frame{To: near, From: m}); f.Right() != (first%2 == 0) {
			t.Errorf("from %x: %t", m, f.Right())
		}
		if f := (ether.Frame{To: m, From: near}); !f.Right() {
			t.Errorf("to %x: not right", m)
		}
	}
}

func TestRightOfTheZeroFrame(t *testing.T) {
	if !(ether.Frame{}).Right() {
		t.Error("not right")
	}
}

// P4.1: Bytes

func TestBytes(t *testing.T) {
	for _, f := range frames() {
		number := int(f.Type)
		if f.Type == 0 {
			number = len(f.Body)
		}
		want := layout(f.To, f.From, number, f.Body)
		b, e := f.Bytes()
		if e != api.OK || !bytes.Equal(b, want) {
			t.Errorf("type %d, %d bytes: %x, %d; not %x", f.Type, len(f.Body), b, e, want)
		}
	}
}

func TestBytesWrittenOut(t *testing.T) {
	f := ether.Frame{To: api.Mac{1, 2, 3, 4, 5, 6}, From: api.Mac{8, 9, 10, 11, 12, 13}, Body: []byte("catenary")}
	b, e := f.Bytes()
	if want := "\x01\x02\x03\x04\x05\x06\x08\x09\x0a\x0b\x0c\x0d\x00\x08catenary" + string(make([]byte, 38)); e != api.OK || string(b) != want {
		t.Errorf("%x, %d", b, e)
	}
	f.Type = 0xbeef
	b, e = f.Bytes()
	if want := "\x01\x02\x03\x04\x05\x06\x08\x09\x0a\x0b\x0c\x0d\xbe\xefcatenary" + string(make([]byte, 38)); e != api.OK || string(b) != want {
		t.Errorf("%x, %d", b, e)
	}
}

func TestHowManyBytes(t *testing.T) {
	for _, c := range []struct{ body, want int }{{0, 60}, {1, 60}, {45, 60}, {46, 60}, {47, 61}, {48, 62}, {1499, 1513}, {1500, 1514}} {
		for _, typ := range types {
			b, e := ether.Frame{To: far, From: near, Type: typ, Body: filled(c.body)}.Bytes()
			if e != api.OK || len(b) != c.want {
				t.Errorf("type %d, %d bytes: %d, %d", typ, c.body, len(b), e)
			}
		}
	}
}

func TestBytesOfAWrongFrame(t *testing.T) {
	for _, f := range wrongFrames() {
		if b, e := f.Bytes(); e != api.ErrArg || len(b) != 0 {
			t.Errorf("from %x, type %d, %d bytes: %x, %d", f.From, f.Type, len(f.Body), b, e)
		}
	}
}

// P4.1: Read

func TestReadOfALength(t *testing.T) {
	for _, size := range sizes {
		body := filled(size)
		mustRead(t, layout(far, near, size, body), ether.Frame{To: far, From: near, Body: body})
		mustRead(t, layout(bridges, api.Mac{}, size, body), ether.Frame{To: bridges, Body: body})
	}
}

// What stands after Body doesn't count: neither whether it is 0, nor how much of it there is.
func TestReadOfALengthWithMoreBytes(t *testing.T) {
	for _, left := range []int{46, 47, 256, 1499, 1500} {
		rest := filled(left)
		for _, size := range []int{0, 1, 45, 46, left - 1, left} {
			mustRead(t, layout(far, near, size, rest), ether.Frame{To: far, From: near, Body: rest[:size]})
		}
	}
}

func TestReadOfALengthThatIsTooGreat(t *testing.T) {
	for _, left := range []int{46, 47, 255, 256, 1498, 1499} {
		b := layout(far, near, left, filled(left))
		mustRead(t, b, ether.Frame{To: far, From: near, Body: filled(left)})
		for _, size := range []int{left + 1, 1500} {
			mustFail(t, layout(far, near, size, filled(left)), api.ErrCut)
		}
	}
}

// For a type, the bytes 0 after a Body can't be told from it.
func TestReadOfAType(t *testing.T) {
	for _, typ := range types[1:] {
		for _, left := range []int{46, 47, 256, 1499, 1500} {
			f := ether.Frame{To: far, From: near, Type: typ, Body: filled(left)}
			mustRead(t, layout(far, near, int(typ), f.Body), f)
			f.Body = make([]byte, left)
			mustRead(t, layout(far, near, int(typ), f.Body), f)
		}
	}
}

func TestReadOfEveryNumber(t *testing.T) {
	for _, left := range []int{46, 1500} {
		rest := filled(left)
		for number := range 65536 {
			b := layout(far, near, number, rest)
			switch {
			case number >= 1536:
				mustRead(t, b, ether.Frame{To: far, From: near, Type: uint16(number), Body: rest})
			case number >= 1501:
				mustFail(t, b, api.ErrForm)
			case number > left:
				mustFail(t, b, api.ErrCut)
			default:
				mustRead(t, b, ether.Frame{To: far, From: near, Body: rest[:number]})
			}
		}
	}
}

func TestReadOfEverySize(t *testing.T) {
	for _, number := range []int{46, 0x0800} {
		all := layout(far, near, number, filled(1600))
		for size := range len(all) + 1 {
			want := api.OK
			if size < 60 {
				want = api.ErrCut
			} else if size > 1514 {
				want = api.ErrForm
			}
			if _, e := ether.Read(all[:size]); e != want {
				t.Errorf("%d bytes: %d, not %d", size, e, want)
			}
		}
		mustFail(t, all[:59], api.ErrCut)
		mustFail(t, all[:1515], api.ErrForm)
	}
	mustFail(t, nil, api.ErrCut)
	mustFail(t, []byte{}, api.ErrCut)
	mustFail(t, filled(65536+60), api.ErrForm)
}

func TestReadOfEveryFirstByte(t *testing.T) {
	for first := range 256 {
		m := api.Mac{byte(first), 1, 1, 1, 1, 1}
		if first%2 == 1 {
			mustFail(t, layout(far, m, 3, filled(46)), api.ErrForm)
			mustFail(t, layout(far, m, 1536, filled(46)), api.ErrForm)
		} else {
			mustRead(t, layout(far, m, 3, filled(46)), ether.Frame{To: far, From: m, Body: filled(3)})
		}
		mustRead(t, layout(m, near, 3, filled(46)), ether.Frame{To: m, From: near, Body: filled(3)})
	}
}

func TestWhichErrorComesFirst(t *testing.T) {
	for _, c := range []struct {
		why  string
		b    []byte
		want api.Errno
	}{
		{"cut, from a group", layout(far, bridges, 46, filled(46))[:59], api.ErrCut},
		{"cut, no number", layout(far, near, 1501, filled(46))[:59], api.ErrCut},
		{"cut, all wrong", layout(far, stations, 1535, filled(46))[:59], api.ErrCut},
		{"cut, a length that is too great", layout(far, near, 1500, filled(46))[:59], api.ErrCut},
		{"cut ahead of the number", layout(far, near, 1501, nil)[:12], api.ErrCut},
		{"cut ahead of From", layout(far, bridges, 0, nil)[:6], api.ErrCut},
		{"too many, from a group", layout(far, bridges, 46, filled(1501)), api.ErrForm},
		{"too many, no number", layout(far, near, 1501, filled(1501)), api.ErrForm},
		{"from a group, a length that is too great", layout(far, bridges, 47, filled(46)), api.ErrForm},
		{"no number, though as many are left", layout(far, near, 1501, filled(1501)), api.ErrForm},
		{"no number, and fewer are left", layout(far, near, 1501, filled(46)), api.ErrForm},
		{"a length that is too great", layout(far, near, 47, filled(46)), api.ErrCut},
	} {
		t.Run(c.why, func(t *testing.T) { mustFail(t, c.b, c.want) })
	}
}

// P4.2

func TestSpanning(t *testing.T) {
	for _, from := range []api.Mac{{}, near, far, bridges} {
		for _, size := range []int{0, 1, 4, 35, 36, 1497, 1498, 3000} {
			bpdu := filled(size)
			want := ether.Frame{To: bridges, From: from, Body: slices.Concat([]byte{0x42, 0x42, 0x03}, bpdu)}
			f := ether.Spanning(from, bpdu)
			if !reflect.DeepEqual(f, want) {
				t.Errorf("from %x, %d bytes: %v", from, size, f)
			}
			if got, ok := f.BPDU(); !ok || !bytes.Equal(got, bpdu) {
				t.Errorf("from %x, %d bytes: %v, %t", from, size, got, ok)
			}
		}
	}
	if f := ether.Spanning(near, nil); string(f.Body) != "\x42\x42\x03" {
		t.Error(f)
	}
}

// A message of 1497 bytes is the longest that a frame can have.
func TestSpanningIsEncoded(t *testing.T) {
	f := ether.Spanning(near, []byte{0, 0, 0, 128})
	b, e := f.Bytes()
	if want := layout(bridges, near, 7, []byte{0x42, 0x42, 0x03, 0, 0, 0, 128}); e != api.OK || !bytes.Equal(b, want) {
		t.Errorf("%x, %d", b, e)
	}
	if !ether.Spanning(near, filled(1497)).Right() || ether.Spanning(near, filled(1498)).Right() || ether.Spanning(bridges, nil).Right() {
		t.Error("Right")
	}
}

func TestBPDU(t *testing.T) {
	for _, c := range []struct {
		body string
		want string
	}{
		{"\x42\x42\x03", ""},
		{"\x42\x42\x03\x00", "\x00"},
		{"\x42\x42\x03\x42\x42\x03", "\x42\x42\x03"},
		{"\x42\x42\x03\x01\x02\x03\x04", "\x01\x02\x03\x04"},
	} {
		for _, from := range []api.Mac{{}, near, far} {
			f := ether.Frame{To: bridges, From: from, Body: []byte(c.body)}
			if b, ok := f.BPDU(); !ok || string(b) != c.want {
				t.Errorf("%x: %x, %t", c.body, b, ok)
			}
		}
	}
}

func TestNoFrameOfTheProtocol(t *testing.T) {
	right := ether.Spanning(near, []byte{1, 2, 3})
	mustNot := func(f ether.Frame) {
		t.Helper()
		if b, ok := f.BPDU(); ok || len(b) != 0 {
			t.Errorf("to %x, type %d, %x: %x, %t", f.To, f.Type, f.Body, b, ok)
		}
	}
	mustNot(ether.Frame{})
	others := []api.Mac{{}, near, stations, {0x01, 0x80, 0xc2, 0, 0, 1}, {0x01, 0x80, 0xc2, 0, 0, 15}}
	for i := range bridges {
		for bit := range 8 {
			m := bridges
			m[i] ^= 1 << bit
			others = append(others, m)
		}
	}
	for _, to := range others {
		f := right
		f.To = to
		mustNot(f)
	}
	for _, typ := range slices.Concat(types[1:], wrongTypes, []uint16{6}) {
		f := right
		f.Type = typ
		mustNot(f)
	}
	for _, body := range []string{"", "\x42", "\x42\x42", "\x03", "\x42\x03", "\x03\x42\x42", "\x00\x42\x42\x03"} {
		f := right
		f.Body = []byte(body)
		mustNot(f)
	}
	for i := range 3 {
		for bit := range 8 {
			f := right
			f.Body = slices.Clone(right.Body)
			f.Body[i] ^= 1 << bit
			mustNot(f)
		}
	}
}

// The third byte of the mark may be beyond the length of Body: it isn't read there.
func TestBPDUReadsNothingBeyondBody(t *testing.T) {
	all := []byte{0x42, 0x42, 0x03, 1, 2}
	for size := range 3 {
		f := ether.Frame{To: bridges, From: near, Body: all[:size]}
		if b, ok := f.BPDU(); ok {
			t.Errorf("%d bytes: %x", size, b)
		}
	}
	f := ether.Frame{To: bridges, From: near, Body: all[:4]}
	if b, ok := f.BPDU(); !ok || string(b) != "\x01" {
		t.Errorf("%x, %t", b, ok)
	}
}

// P4.3

// checkRound encodes a right frame and decodes it again.
func checkRound(t *testing.T, f ether.Frame) {
	t.Helper()
	b, e := f.Bytes()
	if e != api.OK {
		t.Fatalf("type %d, %d bytes: %d", f.Type, len(f.Body), e)
	}
	want := f
	if f.Type != 0 {
		want.Body = append(slices.Clone(f.Body), make([]byte, max(0, 46-len(f.Body)))...)
	}
	mustRead(t, b, want)
}

func TestWhatWasEncodedIsDecoded(t *testing.T) {
	for _, f := range frames() {
		checkRound(t, f)
	}
	for size := range 1501 {
		checkRound(t, ether.Frame{To: far, From: near, Body: filled(size)})
		checkRound(t, ether.Frame{To: far, From: near, Body: make([]byte, size)})
		checkRound(t, ether.Frame{To: far, From: near, Type: 1536, Body: filled(size)})
	}
}

func TestAMessageIsDecoded(t *testing.T) {
	for size := range 1498 {
		bpdu := filled(size)
		b, e := ether.Spanning(near, bpdu).Bytes()
		if e != api.OK {
			t.Fatal(size, e)
		}
		f, e := ether.Read(b)
		if got, ok := f.BPDU(); e != api.OK || !ok || !bytes.Equal(got, bpdu) || f.From != near {
			t.Errorf("%d bytes: %v, %d", size, f, e)
		}
	}
}

// The rules that hold everywhere

// roomy returns bytes with room beyond their length, where a call must not write.
func roomy(b []byte) []byte {
	all := append(slices.Clone(b), bytes.Repeat([]byte{0xa5}, 80)...)
	return all[:len(b)]
}

func TestArgumentsStayAndResultsAreNew(t *testing.T) {
	for _, size := range []int{3, 7, 46, 100} {
		body := roomy(append([]byte{0x42, 0x42, 0x03}, filled(size-3)...))
		before := slices.Clone(body[:size+80])
		f := ether.Frame{To: bridges, From: near, Body: body}
		f.Right()
		b, _ := f.Bytes()
		bpdu, _ := f.BPDU()
		frame := ether.Spanning(near, body)
		_ = append(bpdu, 9, 9, 9)
		_ = append(b, 9, 9, 9)
		clear(b)
		clear(bpdu)
		clear(frame.Body)
		if !bytes.Equal(body[:size+80], before) {
			t.Errorf("%d bytes: the Body was changed", size)
		}
	}
}

func TestReadSharesNothing(t *testing.T) {
	for _, number := range []int{0, 46, 47, 0x0800} {
		b := roomy(layout(far, near, number, filled(47)))
		before := slices.Clone(b[:len(b)+80])
		f, e := ether.Read(b)
		if e != api.OK {
			t.Fatal(number, e)
		}
		body := slices.Clone(f.Body)
		_ = append(f.Body, 9, 9, 9)
		if !bytes.Equal(b[:len(b)+80], before) {
			t.Errorf("number %d: the bytes were changed", number)
		}
		clear(b[:len(b)+80])
		if !bytes.Equal(f.Body, body) {
			t.Errorf("number %d: the frame has the argument's bytes", number)
		}
	}
}

// Two calls share nothing either: what becomes of the first one's result doesn't show in the second one's.
func TestSpanningTwice(t *testing.T) {
	first := ether.Spanning(near, []byte{1})
	clear(first.Body)
	if b, ok := ether.Spanning(near, []byte{1}).BPDU(); !ok || string(b) != "\x01" {
		t.Error(b, ok)
	}
}

// Any bytes

// readAgain decodes by other means than the program's.
func readAgain(b []byte) (ether.Frame, api.Errno) {
	if len(b) < 60 {
		return ether.Frame{}, api.ErrCut
	}
	number := int(b[12])*256 + int(b[13])
	if len(b) > 1514 || b[6]&1 != 0 || 1500 < number && number < 1536 {
		return ether.Frame{}, api.ErrForm
	}
	f := ether.Frame{To: api.Mac(b[:6]), From: api.Mac(b[6:12])}
	if number >= 1536 {
		f.Type, f.Body = uint16(number), b[14:]
		return f, api.OK
	}
	if number > len(b)-14 {
		return ether.Frame{}, api.ErrCut
	}
	f.Body = b[14:][:number]
	return f, api.OK
}

func FuzzRead(f *testing.F) {
	f.Add([]byte{})
	f.Add(layout(bridges, near, 7, []byte{0x42, 0x42, 0x03, 0, 0, 0, 128}))
	f.Add(layout(far, near, 0x0800, filled(1500)))
	f.Add(layout(far, bridges, 1501, filled(47)))
	f.Fuzz(func(t *testing.T, b []byte) {
		want, e := readAgain(b)
		if e != api.OK {
			mustFail(t, b, e)
			return
		}
		mustRead(t, b, want)
		frame, _ := ether.Read(b)
		if !frame.Right() {
			t.Errorf("not right: %v", frame)
		}
		again, e := frame.Bytes()
		end := 14 + len(frame.Body)
		if e != api.OK || !bytes.Equal(again[:end], b[:end]) || bytes.Trim(again[end:], "\x00") != nil || len(again) != max(60, end) {
			t.Errorf("%x, %d; not %x", again, e, b)
		}
	})
}

func FuzzRound(f *testing.F) {
	f.Add([]byte{1, 2, 3, 4, 5, 6}, []byte{2, 3, 4, 5, 6, 7}, uint16(0), []byte{1})
	f.Add([]byte{1, 128, 194, 0, 0, 0}, []byte{2, 3, 4, 5, 6, 7}, uint16(0), []byte{0x42, 0x42, 0x03})
	f.Add([]byte{}, []byte{1}, uint16(1536), filled(1501))
	f.Fuzz(func(t *testing.T, to, from []byte, typ uint16, body []byte) {
		frame := ether.Frame{Type: typ, Body: body}
		copy(frame.To[:], to)
		copy(frame.From[:], from)
		right := frame.From[0]&1 == 0 && len(body) < 1501 && (typ < 1 || typ > 1535)
		if frame.Right() != right {
			t.Fatalf("%v: right is %t", frame, !right)
		}
		after, is := bytes.CutPrefix(body, []byte{66, 66, 3})
		is = is && typ == 0 && frame.To == bridges
		if bpdu, ok := frame.BPDU(); ok != is || is && !bytes.Equal(bpdu, after) {
			t.Errorf("%v: %x, %t", frame, bpdu, ok)
		}
		if right {
			checkRound(t, frame)
		} else if b, e := frame.Bytes(); e != api.ErrArg || len(b) != 0 {
			t.Errorf("%v: %x, %d", frame, b, e)
		}
	})
}
