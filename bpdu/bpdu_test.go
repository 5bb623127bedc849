package bpdu_test

import (
	"bytes"
	"encoding/binary"
	"math"
	"slices"
	"testing"

	"catenary/api"
	"catenary/bpdu"
)

// vector has no two bytes that are the same, so that each has to be at its place.
var vector = api.Vector{Root: 0x8001020304050607, Cost: 0x08090a0b, Bridge: 0x900c0d0e0f101112, Port: 0x8113}

// message returns a message of which every field but the flags is filled, with different bytes.
func message(kind api.Kind, flags byte) api.BPDU {
	return api.BPDU{Kind: kind, Flags: flags, Vector: vector, Age: 0x1415, Max: 0x1617, Hello: 0x1819, Delay: 0x1a1b}
}

// layout returns the bytes of a Config or an RST by other means than the program's.
func layout(version, kind byte, b api.BPDU) []byte {
	out := []byte{0, 0, version, kind, b.Flags}
	out = binary.BigEndian.AppendUint64(out, uint64(b.Vector.Root))
	out = binary.BigEndian.AppendUint32(out, b.Vector.Cost)
	out = binary.BigEndian.AppendUint64(out, uint64(b.Vector.Bridge))
	out = binary.BigEndian.AppendUint16(out, uint16(b.Vector.Port))
	out = binary.BigEndian.AppendUint16(out, b.Age)
	out = binary.BigEndian.AppendUint16(out, b.Max)
	out = binary.BigEndian.AppendUint16(out, b.Hello)
	out = binary.BigEndian.AppendUint16(out, b.Delay)
	if kind == 2 {
		out = append(out, 0)
	}
	return out
}

// long returns the bytes of a right message of that type, with more behind it, whatever the type.
func long(version, kind byte) []byte {
	return append(layout(version, kind, message(api.RST, 12)), 1, 2, 3)
}

// noKinds are numbers that are no kind of a message.
var noKinds = []api.Kind{api.NoBPDU, -1, -2, -128, 4, 5, 128, 255, 257, 258, 259, math.MaxInt, math.MinInt, math.MinInt + 1, 1<<32 + 1}

// noRoles are numbers that are no role.
var noRoles = []api.Role{-1, -2, -3, -4, 5, 6, 7, 8, 12, 255, 256, 257, 258, 259, 260, 1<<32 + 1, 1<<32 + 2, math.MaxInt, math.MinInt, math.MinInt + 1}

func mustBytes(t *testing.T, b api.BPDU, want []byte) {
	t.Helper()
	if !bpdu.Right(b) {
		t.Errorf("Right(%+v) is false", b)
	}
	if out, e := bpdu.Bytes(b); e != api.OK || !bytes.Equal(out, want) {
		t.Errorf("Bytes(%+v) returns %x %d, not %x", b, out, e, want)
	}
}

func mustNotBytes(t *testing.T, b api.BPDU) {
	t.Helper()
	if bpdu.Right(b) {
		t.Errorf("Right(%+v) is true", b)
	}
	if out, e := bpdu.Bytes(b); e != api.ErrArg || len(out) != 0 {
		t.Errorf("Bytes(%+v) returns %x %d, not ErrArg", b, out, e)
	}
}

func mustRead(t *testing.T, all []byte, want api.BPDU) {
	t.Helper()
	if b, e := bpdu.Read(all); e != api.OK || b != want {
		t.Errorf("Read(%x) returns %+v %d, not %+v", all, b, e, want)
	}
}

func mustNotRead(t *testing.T, all []byte, want api.Errno) {
	t.Helper()
	if b, e := bpdu.Read(all); e != want || b != (api.BPDU{}) {
		t.Errorf("Read(%x) returns %+v %d, not the error %d alone", all, b, e, want)
	}
}

// P7.1: Role

func TestRoleOfAllFlags(t *testing.T) {
	for flags := range 256 {
		want := api.Disabled
		switch has4, has8 := flags/4%2 == 1, flags/8%2 == 1; {
		case has4 && has8:
			want = api.Designated
		case has8:
			want = api.Root
		case has4:
			want = api.Alternate
		}
		if r := bpdu.Role(byte(flags)); r != want {
			t.Errorf("Role(%d) is %d, not %d", flags, r, want)
		}
	}
}

// P7.1: WithRole

func TestWithRoleOfAllFlagsAndRoles(t *testing.T) {
	for _, c := range []struct {
		role  api.Role
		bits  int
		reads api.Role
	}{
		{api.Disabled, 0, api.Disabled},
		{api.Root, 8, api.Root},
		{api.Designated, 12, api.Designated},
		{api.Alternate, 4, api.Alternate},
		{api.Backup, 4, api.Alternate},
	} {
		for flags := range 256 {
			got := bpdu.WithRole(byte(flags), c.role)
			if want := flags - flags/4%4*4 + c.bits; int(got) != want {
				t.Errorf("WithRole(%d, %d) is %d, not %d", flags, c.role, got, want)
			}
			if r := bpdu.Role(got); r != c.reads {
				t.Errorf("Role(WithRole(%d, %d)) is %d", flags, c.role, r)
			}
		}
	}
}

func TestWithRoleOfNoRole(t *testing.T) {
	for _, r := range noRoles {
		for flags := range 256 {
			if got, want := bpdu.WithRole(byte(flags), r), flags-flags/4%4*4; int(got) != want {
				t.Errorf("WithRole(%d, %d) is %d, not %d", flags, r, got, want)
			}
		}
	}
}

// P7.1: Right and Bytes

func TestBytesOfTCN(t *testing.T) {
	mustBytes(t, api.BPDU{Kind: api.TCN}, []byte{0, 0, 0, 128})
}

func TestBytesOfTCNWithAnotherField(t *testing.T) {
	for _, change := range []func(b *api.BPDU){
		func(b *api.BPDU) { b.Flags = 1 },
		func(b *api.BPDU) { b.Flags = 12 },
		func(b *api.BPDU) { b.Flags = 128 },
		func(b *api.BPDU) { b.Vector.Root = 1 },
		func(b *api.BPDU) { b.Vector.Root = 1 << 63 },
		func(b *api.BPDU) { b.Vector.Cost = 1 },
		func(b *api.BPDU) { b.Vector.Cost = 1 << 31 },
		func(b *api.BPDU) { b.Vector.Bridge = 1 },
		func(b *api.BPDU) { b.Vector.Bridge = 1 << 63 },
		func(b *api.BPDU) { b.Vector.Port = 1 },
		func(b *api.BPDU) { b.Vector.Port = 1 << 15 },
		func(b *api.BPDU) { b.Age = 1 },
		func(b *api.BPDU) { b.Max = 1 },
		func(b *api.BPDU) { b.Max = 1 << 15 },
		func(b *api.BPDU) { b.Hello = 1 },
		func(b *api.BPDU) { b.Delay = 1 },
		func(b *api.BPDU) { *b = message(api.TCN, 0) },
	} {
		b := api.BPDU{Kind: api.TCN}
		change(&b)
		mustNotBytes(t, b)
	}
}

func TestBytesOfConfigWithAllFlags(t *testing.T) {
	for flags := range 256 {
		b := message(api.Config, byte(flags))
		switch flags {
		case 0, api.FlagTc, api.FlagTcAck, api.FlagTc | api.FlagTcAck:
			mustBytes(t, b, layout(0, 0, b))
		default:
			mustNotBytes(t, b)
		}
	}
}

func TestBytesOfRSTWithAllFlags(t *testing.T) {
	for flags := range 256 {
		b := message(api.RST, byte(flags))
		if flags/4%4 == 0 {
			mustNotBytes(t, b)
			continue
		}
		mustBytes(t, b, layout(2, 2, b))
	}
}

func TestBytesAreAsWritten(t *testing.T) {
	mustBytes(t, message(api.Config, 0x81), []byte("\x00\x00\x00\x00\x81\x80\x01\x02\x03\x04\x05\x06\x07\x08\x09\x0a\x0b\x90\x0c\x0d\x0e\x0f\x10\x11\x12\x81\x13\x14\x15\x16\x17\x18\x19\x1a\x1b"))
	mustBytes(t, message(api.RST, 0x7e), []byte("\x00\x00\x02\x02\x7e\x80\x01\x02\x03\x04\x05\x06\x07\x08\x09\x0a\x0b\x90\x0c\x0d\x0e\x0f\x10\x11\x12\x81\x13\x14\x15\x16\x17\x18\x19\x1a\x1b\x00"))
}

func TestBytesWithTheAgeNearMax(t *testing.T) {
	for _, most := range []uint16{1, 2, 255, 256, 257, 0x1400, 32767, 32768, 65534} {
		for _, kind := range []api.Kind{api.Config, api.RST} {
			b := message(kind, 0)
			if kind == api.RST {
				b.Flags = 12
			}
			b.Max = most
			for _, age := range []uint16{0, most - 1} {
				b.Age = age
				if _, e := bpdu.Bytes(b); e != api.OK || !bpdu.Right(b) {
					t.Errorf("Bytes(%+v) returns %d", b, e)
				}
			}
			for _, age := range []uint16{most, most + 1, 65535} {
				b.Age = age
				mustNotBytes(t, b)
			}
		}
	}
	for _, b := range []api.BPDU{{Kind: api.Config}, {Kind: api.RST, Flags: 12}, {Kind: api.Config, Age: 65535, Max: 65535}} {
		mustNotBytes(t, b)
	}
	b := api.BPDU{Kind: api.Config, Age: 65534, Max: 65535}
	mustBytes(t, b, layout(0, 0, b))
}

// Hello and Delay have no bounds here, and neither has the vector.
func TestBytesOfAnyVectorAndTimes(t *testing.T) {
	for _, b := range []api.BPDU{
		{Kind: api.Config, Max: 1},
		{Kind: api.RST, Flags: 4, Max: 1},
		{Kind: api.RST, Flags: 255, Vector: api.Vector{Root: math.MaxUint64, Cost: math.MaxUint32, Bridge: math.MaxUint64, Port: math.MaxUint16}, Age: 65534, Max: 65535, Hello: 65535, Delay: 65535},
	} {
		version, kind := byte(0), byte(0)
		if b.Kind == api.RST {
			version, kind = 2, 2
		}
		mustBytes(t, b, layout(version, kind, b))
	}
}

func TestBytesOfNoKind(t *testing.T) {
	for _, kind := range noKinds {
		mustNotBytes(t, api.BPDU{Kind: kind})
		mustNotBytes(t, message(kind, 0))
		mustNotBytes(t, message(kind, 12))
	}
}

func TestBytesAreNotShared(t *testing.T) {
	for _, b := range []api.BPDU{{Kind: api.TCN}, message(api.Config, 1), message(api.RST, 8)} {
		one, _ := bpdu.Bytes(b)
		want := slices.Clone(one)
		clear(one[:cap(one)])
		if two, _ := bpdu.Bytes(b); !bytes.Equal(two, want) {
			t.Errorf("%x, not %x", two, want)
		}
	}
}

// P7.2: how many bytes there are

func TestReadOfFewBytes(t *testing.T) {
	mustNotRead(t, nil, api.ErrCut)
	mustNotRead(t, []byte{}, api.ErrCut)
	for _, start := range [][]byte{{0, 0, 0, 128}, {0, 0, 0, 0}, {0, 0, 2, 2}, {1, 0, 2, 2}, {0, 1, 0, 128}, {255, 255, 255, 255}, {0, 0, 1, 2}} {
		for n := range 4 {
			mustNotRead(t, start[:n], api.ErrCut)
		}
	}
}

func TestReadOfEachLength(t *testing.T) {
	for n := 4; n <= 39; n++ {
		mustRead(t, long(0, 128)[:n], api.BPDU{Kind: api.TCN})

		if all := long(0, 0)[:n]; n < 35 {
			mustNotRead(t, all, api.ErrCut)
		} else {
			mustRead(t, all, message(api.Config, 0))
		}

		if all := long(2, 2)[:n]; n < 36 {
			mustNotRead(t, all, api.ErrCut)
		} else {
			mustRead(t, all, message(api.RST, 12))
		}

		mustNotRead(t, long(1, 2)[:n], api.ErrForm)
		mustNotRead(t, long(2, 1)[:n], api.ErrForm)
	}
}

// The type alone tells the length: an RST without a role counts as a Config only after its 36 bytes.
func TestReadOfAnRSTWithoutARoleNeedsItsLastByte(t *testing.T) {
	all := layout(2, 2, message(api.RST, 1))
	mustNotRead(t, all[:34], api.ErrCut)
	mustNotRead(t, all[:35], api.ErrCut)
	mustRead(t, all, message(api.Config, 1))
}

func TestReadReadsNothingBeyondTheLength(t *testing.T) {
	all := layout(2, 2, message(api.RST, 12))
	for n := range all {
		mustNotRead(t, all[:n:len(all)], api.ErrCut)
	}
}

// P7.2: the first bytes

func TestReadWithTheFirstBytesNotZero(t *testing.T) {
	for _, all := range [][]byte{{0, 0, 0, 128}, {0, 0, 0, 0}, {0, 0, 2, 2}, {0, 0, 1, 2}, {0, 0, 0, 77}, long(0, 0), long(2, 2), long(0, 128)} {
		for place := range 2 {
			for _, value := range []byte{1, 2, 127, 128, 255} {
				wrong := slices.Clone(all)
				wrong[place] = value
				mustNotRead(t, wrong, api.ErrForm)
			}
		}
		wrong := slices.Clone(all)
		wrong[0], wrong[1] = 255, 255
		mustNotRead(t, wrong, api.ErrForm)
	}
}

func TestReadOfAllVersionsAndTypes(t *testing.T) {
	for version := range 256 {
		for kind := range 256 {
			all := long(byte(version), byte(kind))
			switch {
			case kind == 128:
				mustRead(t, all, api.BPDU{Kind: api.TCN})
				mustRead(t, all[:4], api.BPDU{Kind: api.TCN})
			case kind == 0:
				mustRead(t, all, message(api.Config, 0))
				mustNotRead(t, all[:4], api.ErrCut)
			case kind == 2 && version >= 2:
				mustRead(t, all, message(api.RST, 12))
				mustNotRead(t, all[:4], api.ErrCut)
			default:
				mustNotRead(t, all, api.ErrForm)
				mustNotRead(t, all[:4], api.ErrForm)
			}
		}
	}
}

func TestReadOfTCNIgnoresTheRest(t *testing.T) {
	for _, rest := range [][]byte{{}, {0}, {1}, {255, 255}, bytes.Repeat([]byte{255}, 31), bytes.Repeat([]byte{7}, 42), make([]byte, 1500)} {
		mustRead(t, append([]byte{0, 0, 0, 128}, rest...), api.BPDU{Kind: api.TCN})
	}
}

// P7.2: times

func TestReadWithTheAgeNearMax(t *testing.T) {
	for _, most := range []uint16{1, 2, 255, 256, 257, 0x1400, 32767, 32768, 65534} {
		for _, flags := range []byte{0, 1, 12} {
			b := message(api.RST, flags)
			b.Max = most
			for _, age := range []uint16{0, most - 1} {
				b.Age = age
				for _, all := range [][]byte{layout(0, 0, b), layout(2, 2, b)} {
					if x, e := bpdu.Read(all); e != api.OK || x.Age != age || x.Max != most {
						t.Errorf("Read(%x) returns %+v %d", all, x, e)
					}
				}
			}
			for _, age := range []uint16{most, most + 1, 65535} {
				b.Age = age
				mustNotRead(t, layout(0, 0, b), api.ErrTimes)
				mustNotRead(t, layout(2, 2, b), api.ErrTimes)
			}
		}
	}
	mustNotRead(t, layout(0, 0, api.BPDU{}), api.ErrTimes)
	mustNotRead(t, layout(2, 2, api.BPDU{}), api.ErrTimes)
}

// P7.2: flags

func TestReadOfConfigWithAllFlags(t *testing.T) {
	for flags := range 256 {
		mustRead(t, layout(0, 0, message(api.Config, byte(flags))), message(api.Config, byte(flags)&0x81))
	}
}

func TestReadOfRSTWithAllFlags(t *testing.T) {
	for flags := range 256 {
		want := message(api.RST, byte(flags))
		if flags/4%4 == 0 {
			want = message(api.Config, byte(flags)&0x81)
		}
		mustRead(t, layout(2, 2, message(api.RST, byte(flags))), want)
	}
}

func TestReadIgnoresTheLastByteAndWhatIsBehind(t *testing.T) {
	for value := range 256 {
		for _, flags := range []byte{1, 4, 8, 12} {
			all := layout(2, 2, message(api.RST, flags))
			want := message(api.RST, flags)
			if flags == 1 {
				want = message(api.Config, 1)
			}
			all[35] = byte(value)
			mustRead(t, all, want)
			mustRead(t, append(all, byte(value)), want)
			mustRead(t, append(all, bytes.Repeat([]byte{byte(value)}, 1464)...), want)
		}
		all := layout(0, 0, message(api.Config, 128))
		mustRead(t, append(all, byte(value)), message(api.Config, 128))
		mustRead(t, append(all, bytes.Repeat([]byte{byte(value)}, 1465)...), message(api.Config, 128))
	}
}

// P7.2: the order of the errors

func TestReadWithSeveralThingsWrong(t *testing.T) {
	old := message(api.RST, 12)
	old.Age = old.Max
	for i, c := range []struct {
		all  []byte
		want api.Errno
	}{
		{[]byte{1}, api.ErrCut},                                                   // short, and the first byte
		{[]byte{0, 1, 0}, api.ErrCut},                                             // short, and the second byte
		{[]byte{1, 1, 1, 2}, api.ErrForm},                                         // the first two, the type, cut
		{[]byte{0, 1, 2, 2}, api.ErrForm},                                         // the first two, cut
		{[]byte{0, 0, 1, 2}, api.ErrForm},                                         // the type, cut
		{[]byte{1, 0, 0, 128}, api.ErrForm},                                       // the first two, of a TCN
		{layout(1, 2, old), api.ErrForm},                                          // the type, old
		{append([]byte{0, 1}, layout(2, 2, old)[2:]...), api.ErrForm},             // the first two, old
		{layout(2, 2, old)[:35], api.ErrCut},                                      // cut, old
		{layout(0, 0, old)[:34], api.ErrCut},                                      // cut, old
		{layout(0, 0, old)[:29], api.ErrCut},                                      // cut, old
		{append(layout(0, 0, old), 1, 2), api.ErrTimes},                           // old, with more behind it
		{layout(9, 2, old), api.ErrTimes},                                         // old
		{append([]byte{1, 0, 9}, layout(2, 2, old)[3:35]...), api.ErrForm},        // the first two, cut, old
		{append([]byte{0, 0, 0}, layout(0, 129, old)[3:]...), api.ErrForm},        // the type, old
		{append([]byte{0, 0, 9}, layout(0, 3, old)[3:20]...), api.ErrForm},        // the type, cut
		{append([]byte{0, 0, 0, 128}, layout(2, 2, old)[4:20]...), api.OK},        // a TCN, whatever is behind it
		{append([]byte{0, 0, 255, 128}, layout(2, 2, old)[4:]...), api.OK},        // a TCN of any version
		{append([]byte{0, 255, 255, 128}, layout(2, 2, old)[4:]...), api.ErrForm}, // the first two, of a TCN
	} {
		b, e := bpdu.Read(c.all)
		if e != c.want || e != api.OK && b != (api.BPDU{}) {
			t.Errorf("%d: %+v %d, not %d", i, b, e, c.want)
		}
	}
}

func TestReadNeitherChangesNorKeepsItsBytes(t *testing.T) {
	for _, all := range [][]byte{long(2, 2), long(0, 0), long(0, 128), long(1, 2), {1, 2, 3}} {
		before := slices.Clone(all)
		b, e := bpdu.Read(all)
		if !bytes.Equal(all, before) {
			t.Errorf("%x became %x", before, all)
		}
		clear(all)
		if again, same := bpdu.Read(before); again != b || same != e {
			t.Errorf("%+v %d, then %+v %d", b, e, again, same)
		}
	}
}

// P7.3

// valid returns messages of every kind, with all the flags that they may have and all sorts of numbers.
func valid() []api.BPDU {
	l := []api.BPDU{{Kind: api.TCN}}
	for _, v := range []api.Vector{{}, vector, {Root: math.MaxUint64, Cost: math.MaxUint32, Bridge: math.MaxUint64, Port: math.MaxUint16}, {Root: 1}, {Cost: 1}, {Bridge: 1}, {Port: 1}} {
		for _, n := range [][4]uint16{{0, 1, 0, 0}, {0, 65535, 1, 2}, {65534, 65535, 65535, 65535}, {256, 5120, 512, 3840}, {255, 256, 0, 1}} {
			for flags := range 256 {
				b := api.BPDU{Kind: api.RST, Flags: byte(flags), Vector: v, Age: n[0], Max: n[1], Hello: n[2], Delay: n[3]}
				if flags/4%4 != 0 {
					l = append(l, b)
				}
				if flags&0x81 == flags {
					b.Kind = api.Config
					l = append(l, b)
				}
			}
		}
	}
	return l
}

func TestMessagesAreReadAsTheyWere(t *testing.T) {
	for _, b := range valid() {
		all, e := bpdu.Bytes(b)
		if e != api.OK {
			t.Fatalf("Bytes(%+v) returns %d", b, e)
		}
		mustRead(t, all, b)
		mustRead(t, append(all, 255, 0, 1), b)
		for n := range all {
			if n < 4 || b.Kind != api.TCN {
				mustNotRead(t, all[:n], api.ErrCut)
			}
		}
	}
}

// What is read is valid, and its bytes are read as the same message again.
func FuzzRead(f *testing.F) {
	for _, all := range [][]byte{{}, {0, 0, 0, 128}, long(0, 0), long(2, 2), long(3, 2), long(1, 2), layout(2, 2, message(api.RST, 1))} {
		f.Add(all)
	}
	f.Fuzz(func(t *testing.T, all []byte) {
		b, e := bpdu.Read(all)
		if e != api.OK {
			if b != (api.BPDU{}) {
				t.Errorf("%+v %d", b, e)
			}
			return
		}
		out, e := bpdu.Bytes(b)
		if e != api.OK || !bpdu.Right(b) || len(out) > len(all) {
			t.Fatalf("%+v of %x: %x %d", b, all, out, e)
		}
		mustRead(t, out, b)
	})
}
