package fdb_test

import (
	"bytes"
	"math"
	"math/rand/v2"
	"slices"
	"testing"

	"catenary/addr"
	"catenary/api"
	"catenary/fdb"
)

// mac returns an address of one station alone.
func mac(n byte) api.Mac { return api.Mac{2, 0, 0, 0, 0, n} }

// reserved returns one of the sixteen reserved addresses.
func reserved(n byte) api.Mac { return api.Mac{1, 0x80, 0xc2, 0, 0, n} }

// learnt returns the entry of an address that was learnt at a port, so many seconds ago.
func learnt(m api.Mac, port, age int) fdb.Entry { return fdb.Entry{Mac: m, Port: port, Age: age} }

// fixed returns the entry of an address that is static, at ports.
func fixed(m api.Mac, ports uint32) fdb.Entry { return fdb.Entry{Mac: m, Ports: ports, Static: true} }

// mustHold asks for a table's entries in every way; they are listed as All has to.
func mustHold(t *testing.T, x *fdb.Table, want ...fdb.Entry) {
	t.Helper()
	if got := x.All(); !slices.Equal(got, want) {
		t.Errorf("All returns %v, not %v", got, want)
	}
	if got := x.Len(); got != len(want) {
		t.Errorf("Len returns %d, not %d", got, len(want))
	}
	for _, e := range want {
		mustFind(t, x, e)
	}
}

func mustFind(t *testing.T, x *fdb.Table, want fdb.Entry) {
	t.Helper()
	if got, ok := x.Find(want.Mac); got != want || !ok {
		t.Errorf("Find of %v returns %v, %v, not %v", want.Mac, got, ok, want)
	}
}

func mustNotFind(t *testing.T, x *fdb.Table, m api.Mac) {
	t.Helper()
	if got, ok := x.Find(m); got != (fdb.Entry{}) || ok {
		t.Errorf("Find of %v returns %v, %v, though it has no entry", m, got, ok)
	}
}

func mustLearn(t *testing.T, x *fdb.Table, m api.Mac, port int) {
	t.Helper()
	if !x.Learn(m, port) {
		t.Errorf("Learn of %v at %d returns false", m, port)
	}
}

func mustNotLearn(t *testing.T, x *fdb.Table, m api.Mac, port int) {
	t.Helper()
	if x.Learn(m, port) {
		t.Errorf("Learn of %v at %d returns true", m, port)
	}
}

func mustFix(t *testing.T, x *fdb.Table, m api.Mac, ports uint32, want api.Errno) {
	t.Helper()
	if got := x.Fix(m, ports); got != want {
		t.Errorf("Fix of %v at %b returns %v, not %v", m, ports, got, want)
	}
}

func mustForget(t *testing.T, x *fdb.Table, m api.Mac, want api.Errno) {
	t.Helper()
	if got := x.Forget(m); got != want {
		t.Errorf("Forget of %v returns %v, not %v", m, got, want)
	}
}

func mustFlush(t *testing.T, x *fdb.Table, port, want int) {
	t.Helper()
	if got := x.Flush(port); got != want {
		t.Errorf("Flush of %d returns %d, not %d", port, got, want)
	}
}

func mustAge(t *testing.T, x *fdb.Table, most, want int) {
	t.Helper()
	if got := x.Older(most); got != want {
		t.Errorf("Older(%d) returns %d, not %d", most, got, want)
	}
}

// tableOf returns a table with these entries, each with its Age, and with room for this many more.
func tableOf(t *testing.T, room int, l ...fdb.Entry) *fdb.Table {
	t.Helper()
	x := fdb.New(len(l) + room)
	oldest := 0
	for _, e := range l {
		oldest = max(oldest, e.Age)
	}
	// Those that are to be older are learnt earlier.
	for age := oldest; age >= 0; age-- {
		for _, e := range l {
			switch {
			case e.Age != age:
			case e.Static:
				mustFix(t, x, e.Mac, e.Ports, api.OK)
			default:
				mustLearn(t, x, e.Mac, e.Port)
			}
		}
		if age > 0 {
			mustAge(t, x, math.MaxInt, 0)
		}
	}
	mustHold(t, x, l...)
	return x
}

// P10.1: New

func TestNewHasNoEntries(t *testing.T) {
	for _, most := range []int{math.MinInt, -1, 0, 1, 2, 65536, math.MaxInt} {
		x := fdb.New(most)
		mustHold(t, x)
		mustNotFind(t, x, mac(1))
		mustNotFind(t, x, api.Mac{})
		mustForget(t, x, mac(1), api.ErrNone)
		mustFlush(t, x, 0, 0)
		mustAge(t, x, 0, 0)
		x.Start()
		mustHold(t, x)
	}
}

func TestNewWithoutRoom(t *testing.T) {
	for _, most := range []int{math.MinInt, -65536, -2, -1, 0} {
		x := fdb.New(most)
		for n := range byte(3) {
			mustNotLearn(t, x, mac(n), int(n))
			mustFix(t, x, mac(n), 1, api.ErrFull)
			mustFix(t, x, reserved(n), 1, api.ErrArg)
		}
		mustHold(t, x)
	}
}

// Each kind of entry takes the same room, alone and with the other one.
func TestNewWithRoom(t *testing.T) {
	for _, most := range []int{1, 2, 3, 8, 100} {
		for kinds := range 3 {
			x := fdb.New(most)
			var want []fdb.Entry
			for n := range byte(most) {
				e := learnt(mac(n), int(n%5), 0)
				if kinds == 1 || kinds == 2 && n%2 == 1 {
					e = fixed(mac(n), uint32(n))
					mustFix(t, x, e.Mac, e.Ports, api.OK)
				} else {
					mustLearn(t, x, e.Mac, e.Port)
				}
				want = append(want, e)
				mustHold(t, x, want...)
			}
			mustNotLearn(t, x, mac(byte(most)), 1)
			mustFix(t, x, mac(byte(most)), 1, api.ErrFull)
			mustHold(t, x, want...)
		}
	}
}

// The greatest maximum that a bridge's table may have is one that a table fills.
func TestNewWithMuchRoom(t *testing.T) {
	for _, most := range []int{65536, 65537, math.MaxInt} {
		x := fdb.New(most)
		for n := range 65536 {
			if !x.Learn(addr.Of(uint64(n)), n) {
				t.Fatalf("Learn of the number %d returns false", n)
			}
		}
		if x.Len() != 65536 || x.Learn(addr.Of(65536), 1) != (most > 65536) {
			t.Errorf("a table for %d entries has %d of them", most, x.Len())
		}
	}
}

func TestTablesAreApart(t *testing.T) {
	x, y := fdb.New(2), fdb.New(2)
	mustLearn(t, x, mac(1), 3)
	mustFix(t, y, mac(2), 5, api.OK)
	mustAge(t, x, 9, 0)
	mustHold(t, x, learnt(mac(1), 3, 1))
	mustHold(t, y, fixed(mac(2), 5))
	y.Start()
	mustFlush(t, y, 3, 0)
	mustForget(t, y, mac(1), api.ErrNone)
	mustHold(t, x, learnt(mac(1), 3, 1))
}

// P10.1: Learn

func TestLearnOfAnyPort(t *testing.T) {
	for _, port := range []int{0, 1, 7, 8, 31, 32, 65536, math.MaxInt, -1, -2, math.MinInt} {
		x := fdb.New(1)
		mustLearn(t, x, mac(9), port)
		mustHold(t, x, learnt(mac(9), port, 0))
	}
}

// Whether an address is a group address is a matter of its first byte's lowest bit.
func TestLearnOfGroupAddress(t *testing.T) {
	for first := range 256 {
		for _, rest := range [][5]byte{{}, {0x80, 0xc2}, {0, 0, 0, 0, 1}, {1, 1, 1, 1, 1}, {0xff, 0xff, 0xff, 0xff, 0xff}} {
			m := api.Mac{byte(first), rest[0], rest[1], rest[2], rest[3], rest[4]}
			x := tableOf(t, 2, learnt(api.Mac{2, 0, 0, 0, 0, 77}, 4, 1))
			if first%2 == 1 {
				mustNotLearn(t, x, m, 3)
				mustNotFind(t, x, m)
				mustHold(t, x, learnt(api.Mac{2, 0, 0, 0, 0, 77}, 4, 1))
			} else {
				mustLearn(t, x, m, 3)
				mustFind(t, x, learnt(m, 3, 0))
				mustFind(t, x, learnt(api.Mac{2, 0, 0, 0, 0, 77}, 4, 1))
			}
		}
	}
}

func TestLearnOfGroupAddressWithAnEntry(t *testing.T) {
	for _, room := range []int{0, 1} {
		l := []fdb.Entry{learnt(mac(1), 2, 3), fixed(addr.All(), 5)}
		x := tableOf(t, room, l...)
		mustNotLearn(t, x, addr.All(), 2)
		mustNotLearn(t, x, addr.Group(), 2)
		mustHold(t, x, l...)
	}
}

func TestLearnOfStaticEntry(t *testing.T) {
	for _, room := range []int{0, 1, 5} {
		for _, ports := range []uint32{0, 1, 4, 6, math.MaxUint32} {
			l := []fdb.Entry{learnt(mac(1), 1, 2), fixed(mac(2), ports), fixed(mac(3), 8)}
			x := tableOf(t, room, l...)
			for _, port := range []int{0, 1, 2, 3, -1} {
				mustNotLearn(t, x, mac(2), port)
				mustHold(t, x, l...)
			}
		}
	}
}

// Room doesn't matter for an address that has an entry already.
func TestLearnAgain(t *testing.T) {
	for _, room := range []int{0, 1} {
		for _, age := range []int{0, 1, 5} {
			for _, port := range []int{2, 3, 0, -1} {
				x := tableOf(t, room, learnt(mac(1), 2, 4), learnt(mac(2), 2, age), fixed(mac(3), 1))
				mustLearn(t, x, mac(2), port)
				mustHold(t, x, learnt(mac(1), 2, 4), learnt(mac(2), port, 0), fixed(mac(3), 1))
				mustLearn(t, x, mac(2), port)
				mustHold(t, x, learnt(mac(1), 2, 4), learnt(mac(2), port, 0), fixed(mac(3), 1))
			}
		}
	}
}

func TestLearnMovesTheAddress(t *testing.T) {
	x := tableOf(t, 0, learnt(mac(1), 2, 0))
	mustLearn(t, x, mac(1), 3)
	mustFlush(t, x, 2, 0)
	mustHold(t, x, learnt(mac(1), 3, 0))
	mustFlush(t, x, 3, 1)
	mustHold(t, x)
}

func TestLearnKeepsTheAddress(t *testing.T) {
	x := fdb.New(1)
	for range 50 {
		mustLearn(t, x, mac(1), 2)
		mustAge(t, x, 3, 0)
		mustAge(t, x, 3, 0)
	}
	mustHold(t, x, learnt(mac(1), 2, 2))
	mustAge(t, x, 3, 1)
}

func TestLearnWithoutAnEntry(t *testing.T) {
	l := []fdb.Entry{learnt(mac(1), 1, 1), fixed(mac(2), 2)}
	x := tableOf(t, 1, l...)
	mustLearn(t, x, mac(3), 1)
	l = append(l, learnt(mac(3), 1, 0))
	mustHold(t, x, l...)
	mustNotLearn(t, x, mac(4), 1)
	mustNotLearn(t, x, mac(0), 0)
	mustHold(t, x, l...)
}

// P10.1: Fix

func TestFixAtAnyPorts(t *testing.T) {
	for bit := range 32 {
		for _, ports := range []uint32{0, 1 << bit, 1<<bit - 1, ^uint32(1 << bit), math.MaxUint32} {
			x := fdb.New(1)
			mustFix(t, x, mac(9), ports, api.OK)
			mustHold(t, x, fixed(mac(9), ports))
		}
	}
}

func TestFixOfReservedAddress(t *testing.T) {
	for n := range byte(16) {
		for _, room := range []int{0, 1, 16} {
			l := []fdb.Entry{fixed(api.Mac{1, 0x80, 0xc2, 0, 0, 16}, 2), learnt(mac(1), 2, 3)}
			x := tableOf(t, room, l...)
			mustFix(t, x, reserved(n), 1, api.ErrArg)
			mustFix(t, x, reserved(n), 0, api.ErrArg)
			mustNotFind(t, x, reserved(n))
			mustHold(t, x, l...)
		}
		x := fdb.New(0)
		mustFix(t, x, reserved(n), 1, api.ErrArg)
		mustHold(t, x)
	}
}

// Only the sixteen are reserved: what differs from one of them in any bit in front of the last four isn't.
func TestFixOfOtherAddresses(t *testing.T) {
	for bit := 4; bit < 48; bit++ {
		for _, n := range []uint64{0, 1, 15} {
			m := addr.Of(addr.Number(reserved(0)) ^ 1<<bit | n)
			x := fdb.New(1)
			mustFix(t, x, m, 6, api.OK)
			mustHold(t, x, fixed(m, 6))
		}
	}
	for _, m := range []api.Mac{{}, addr.All(), {1}, {0xff}, {2, 0, 0, 0, 0, 1}, {3, 0, 0, 0, 0, 1}} {
		x := fdb.New(1)
		mustFix(t, x, m, 6, api.OK)
		mustHold(t, x, fixed(m, 6))
	}
}

func TestFixWithoutAnEntry(t *testing.T) {
	l := []fdb.Entry{learnt(mac(1), 1, 1), fixed(mac(2), 2)}
	x := tableOf(t, 1, l...)
	mustFix(t, x, mac(3), 9, api.OK)
	l = append(l, fixed(mac(3), 9))
	mustHold(t, x, l...)
	mustFix(t, x, mac(4), 9, api.ErrFull)
	mustFix(t, x, mac(0), 0, api.ErrFull)
	mustFix(t, x, addr.All(), 1, api.ErrFull)
	mustHold(t, x, l...)
}

// Of what an entry was before, nothing is left; room doesn't matter.
func TestFixOfLearntEntry(t *testing.T) {
	for _, room := range []int{0, 1} {
		for _, ports := range []uint32{0, 1, 12} {
			for _, age := range []int{0, 1, 7} {
				x := tableOf(t, room, learnt(mac(1), 2, 4), learnt(mac(2), 3, age))
				mustFix(t, x, mac(2), ports, api.OK)
				mustHold(t, x, learnt(mac(1), 2, 4), fixed(mac(2), ports))
				mustNotLearn(t, x, mac(2), 3)
				mustFlush(t, x, 3, 0)
				mustHold(t, x, learnt(mac(1), 2, 4), fixed(mac(2), ports))
			}
		}
	}
}

func TestFixOfStaticEntry(t *testing.T) {
	for _, room := range []int{0, 1} {
		x := tableOf(t, room, fixed(mac(1), 4), fixed(mac(2), 6), learnt(mac(3), 2, 5))
		for _, ports := range []uint32{6, 9, 0, 0, 6} {
			mustFix(t, x, mac(2), ports, api.OK)
			mustHold(t, x, fixed(mac(1), 4), fixed(mac(2), ports), learnt(mac(3), 2, 5))
		}
	}
}

// The table is full, and the address reserved: that it is reserved comes first.
func TestFixWithTwoErrors(t *testing.T) {
	l := []fdb.Entry{learnt(mac(1), 1, 1), fixed(mac(2), 2)}
	x := tableOf(t, 0, l...)
	mustFix(t, x, mac(3), 1, api.ErrFull)
	mustFix(t, x, reserved(0), 1, api.ErrArg)
	mustFix(t, x, reserved(15), 1, api.ErrArg)
	mustFix(t, x, api.Mac{1, 0x80, 0xc2, 0, 0, 16}, 1, api.ErrFull)
	mustHold(t, x, l...)
}

// P10.1: Find and Forget

// An address that differs in one bit alone is another one.
func TestFindOfNearAddresses(t *testing.T) {
	for _, l := range [][]fdb.Entry{{learnt(mac(5), 3, 2)}, {fixed(mac(5), 3)}, {learnt(api.Mac{}, 3, 2)}, {fixed(addr.All(), 3)}} {
		x := tableOf(t, 1, l...)
		for bit := range 48 {
			m := addr.Of(addr.Number(l[0].Mac) ^ 1<<bit)
			mustNotFind(t, x, m)
			mustForget(t, x, m, api.ErrNone)
		}
		mustHold(t, x, l...)
	}
}

func TestForget(t *testing.T) {
	all := []fdb.Entry{learnt(mac(1), 0, 3), fixed(mac(2), 7), learnt(mac(3), 0, 0), fixed(mac(4), 0)}
	for i, e := range all {
		for _, room := range []int{0, 2} {
			x := tableOf(t, room, all...)
			mustForget(t, x, e.Mac, api.OK)
			mustNotFind(t, x, e.Mac)
			rest := slices.Delete(slices.Clone(all), i, i+1)
			mustHold(t, x, rest...)
			mustForget(t, x, e.Mac, api.ErrNone)
			mustForget(t, x, mac(5), api.ErrNone)
			mustForget(t, x, reserved(0), api.ErrNone)
			mustHold(t, x, rest...)
		}
	}
}

// Behind a Forget there is room for one entry of either kind, and for no more.
func TestRoomBehindForget(t *testing.T) {
	for _, gone := range []fdb.Entry{learnt(mac(2), 1, 2), fixed(mac(2), 2)} {
		for _, comes := range []fdb.Entry{learnt(mac(3), 1, 0), fixed(mac(3), 2), learnt(mac(2), 5, 0), fixed(mac(2), 8)} {
			x := tableOf(t, 0, learnt(mac(1), 1, 1), gone)
			mustForget(t, x, mac(2), api.OK)
			if comes.Static {
				mustFix(t, x, comes.Mac, comes.Ports, api.OK)
			} else {
				mustLearn(t, x, comes.Mac, comes.Port)
			}
			mustNotLearn(t, x, mac(4), 1)
			mustFix(t, x, mac(4), 1, api.ErrFull)
			mustHold(t, x, learnt(mac(1), 1, 1), comes)
		}
	}
}

// P10.2: Flush

func TestFlushOfTheExample(t *testing.T) {
	x := fdb.New(1)
	mustLearn(t, x, mac(1), 1)
	mustFlush(t, x, 1, 1)
	mustNotFind(t, x, mac(1))
	mustHold(t, x)
}

func TestFlush(t *testing.T) {
	all := []fdb.Entry{
		learnt(mac(1), 0, 0), learnt(mac(2), 1, 0), learnt(mac(3), 2, 4), learnt(mac(4), 1, 4), learnt(mac(5), -1, 1),
		learnt(mac(6), 32, 0), learnt(mac(7), math.MaxInt, 0), learnt(mac(8), math.MinInt, 2), fixed(mac(9), 0), fixed(mac(10), 3), fixed(addr.All(), math.MaxUint32),
	}
	for port, want := range map[int]int{0: 1, 1: 2, 2: 1, 3: 0, 4: 0, -1: 1, -2: 0, 31: 0, 32: 1, 33: 0, 256: 0, math.MaxInt: 1, math.MinInt: 1} {
		x := tableOf(t, 0, all...)
		mustFlush(t, x, port, want)
		rest := slices.DeleteFunc(slices.Clone(all), func(e fdb.Entry) bool { return !e.Static && e.Port == port })
		mustHold(t, x, rest...)
		mustFlush(t, x, port, 0)
		mustHold(t, x, rest...)
	}
}

// Static entries are at ports, too, but they weren't learnt there.
func TestFlushLeavesStaticEntries(t *testing.T) {
	all := []fdb.Entry{fixed(mac(1), 0), fixed(mac(2), 1), fixed(mac(3), 2), fixed(mac(4), math.MaxUint32)}
	x := tableOf(t, 1, all...)
	for port := -2; port < 40; port++ {
		mustFlush(t, x, port, 0)
		mustHold(t, x, all...)
	}
	mustLearn(t, x, mac(5), 0)
	mustFlush(t, x, 1, 0)
	mustFlush(t, x, 0, 1)
	mustHold(t, x, all...)
}

func TestFlushOfMany(t *testing.T) {
	x := fdb.New(1000)
	for n := range 1000 {
		mustLearn(t, x, addr.Of(uint64(n)), n%8)
	}
	for port := range 8 {
		mustFlush(t, x, port, 125)
		if x.Len() != 1000-125*(port+1) {
			t.Errorf("%d entries are left behind port %d", x.Len(), port)
		}
	}
	mustHold(t, x)
}

func TestRoomBehindFlush(t *testing.T) {
	x := tableOf(t, 0, learnt(mac(1), 1, 0), learnt(mac(2), 2, 0), learnt(mac(3), 1, 0))
	mustFlush(t, x, 1, 2)
	mustLearn(t, x, mac(4), 1)
	mustFix(t, x, mac(5), 1, api.OK)
	mustNotLearn(t, x, mac(6), 1)
	mustHold(t, x, learnt(mac(2), 2, 0), learnt(mac(4), 1, 0), fixed(mac(5), 1))
}

// P10.2: Older

func TestOlderWithAnyMaximum(t *testing.T) {
	for _, most := range []int{math.MinInt, -5, -1, 0, 1, 2, 3, 4, 5, 6, 7, 8, 300, math.MaxInt} {
		all, want, gone := []fdb.Entry{fixed(mac(0), 4)}, []fdb.Entry{fixed(mac(0), 4)}, 0
		for age := range 7 {
			e := learnt(mac(byte(age+1)), age%3, age)
			all = append(all, e)
			e.Age++
			if e.Age >= most {
				gone++
			} else {
				want = append(want, e)
			}
		}
		all, want = append(all, fixed(mac(9), 0)), append(want, fixed(mac(9), 0))
		x := tableOf(t, 0, all...)
		mustAge(t, x, most, gone)
		mustHold(t, x, want...)
	}
}

// An entry that is learnt is there for most - 1 seconds, and goes with the next one.
func TestOlderSecondBySecond(t *testing.T) {
	for _, most := range []int{1, 2, 3, 15, 300} {
		x := fdb.New(1)
		mustLearn(t, x, mac(1), 2)
		for age := 1; age < most; age++ {
			mustAge(t, x, most, 0)
			mustHold(t, x, learnt(mac(1), 2, age))
		}
		mustAge(t, x, most, 1)
		mustHold(t, x)
		mustAge(t, x, most, 0)
	}
}

// The maximum is that of each call alone, so that an Age may be beyond it.
func TestOlderWithALesserMaximum(t *testing.T) {
	x := tableOf(t, 0, learnt(mac(1), 1, 10), learnt(mac(2), 1, 3), learnt(mac(3), 2, 2), learnt(mac(4), 2, 1))
	mustAge(t, x, 4, 2)
	mustHold(t, x, learnt(mac(3), 2, 3), learnt(mac(4), 2, 2))
	mustAge(t, x, 100, 0)
	mustHold(t, x, learnt(mac(3), 2, 4), learnt(mac(4), 2, 3))
	mustAge(t, x, -1, 2)
	mustHold(t, x)
}

func TestOlderLeavesStaticEntries(t *testing.T) {
	all := []fdb.Entry{fixed(mac(1), 0), fixed(mac(2), 1), fixed(mac(3), math.MaxUint32)}
	for _, most := range []int{math.MinInt, -1, 0, 1, 2, 3, math.MaxInt} {
		x := tableOf(t, 0, all...)
		for range 5 {
			mustAge(t, x, most, 0)
			mustHold(t, x, all...)
		}
	}
}

func TestRoomBehindOlder(t *testing.T) {
	x := tableOf(t, 0, learnt(mac(1), 1, 5), learnt(mac(2), 1, 1), fixed(mac(3), 1))
	mustNotLearn(t, x, mac(4), 1)
	mustAge(t, x, 6, 1)
	mustLearn(t, x, mac(4), 1)
	mustNotLearn(t, x, mac(5), 1)
	mustHold(t, x, learnt(mac(2), 1, 2), fixed(mac(3), 1), learnt(mac(4), 1, 0))
}

// P10.2: Start

func TestStart(t *testing.T) {
	for _, c := range []struct{ all, want []fdb.Entry }{
		{nil, nil},
		{[]fdb.Entry{learnt(mac(1), 0, 0), learnt(mac(2), 5, 3), learnt(mac(3), -1, 1)}, nil},
		{[]fdb.Entry{fixed(mac(1), 0), fixed(mac(2), 5)}, []fdb.Entry{fixed(mac(1), 0), fixed(mac(2), 5)}},
		{[]fdb.Entry{learnt(mac(1), 0, 2), fixed(mac(2), 5), learnt(mac(3), 4, 0), fixed(mac(4), 1)}, []fdb.Entry{fixed(mac(2), 5), fixed(mac(4), 1)}},
	} {
		x := tableOf(t, 0, c.all...)
		for range 2 {
			x.Start()
			mustHold(t, x, c.want...)
		}
		// There is room again for as many as have gone.
		for n := range byte(len(c.all) - len(c.want)) {
			mustLearn(t, x, mac(100+n), 1)
		}
		mustNotLearn(t, x, mac(200), 1)
	}
}

// P10.2: Len and All

// Addresses, by increasing numbers: each byte decides, and earlier ones before later ones.
func inOrder() []api.Mac {
	return []api.Mac{
		{}, {0, 0, 0, 0, 0, 1}, {0, 0, 0, 0, 0, 0xff}, {0, 0, 0, 0, 1, 0}, {0, 0, 0, 1, 0, 0}, {0, 0, 1, 0, 0, 0xff}, {0, 0, 0x80, 0xff, 0, 0}, {0, 1, 0, 0, 0, 0},
		{0, 0x7f, 9, 9, 9, 9}, {0, 0x80, 0, 0, 0, 0}, {2, 0, 0, 0, 0, 0}, {2, 0, 0, 0, 0, 1}, {2, 1, 0, 0, 0, 0}, {0x7e, 0xff, 0, 0, 0, 0}, {0x80, 0, 0, 0, 0, 0}, {0xfe, 0, 0, 0, 0, 9},
	}
}

func TestAllWhateverOrderTheyCameIn(t *testing.T) {
	l := inOrder()
	random := rand.New(rand.NewPCG(1, 2))
	for range 300 {
		x, want := fdb.New(len(l)), make([]fdb.Entry, len(l))
		for _, i := range random.Perm(len(l)) {
			if random.IntN(2) == 0 {
				want[i] = learnt(l[i], random.IntN(8), 0)
				mustLearn(t, x, l[i], want[i].Port)
			} else {
				want[i] = fixed(l[i], random.Uint32())
				mustFix(t, x, l[i], want[i].Ports, api.OK)
			}
		}
		mustHold(t, x, want...)
		mustHold(t, x, want...)
	}
}

// A change of what All returned, or of what is beyond its length, changes nothing else.
func TestAllIsApart(t *testing.T) {
	want := []fdb.Entry{learnt(mac(1), 0, 2), fixed(mac(2), 5), learnt(mac(3), 4, 0)}
	x := tableOf(t, 1, want...)
	first, second := x.All(), x.All()
	for i := range first {
		first[i] = learnt(mac(9), 9, 9)
	}
	first = append(first, fixed(mac(8), 8))
	clear(first[:cap(first)])
	if !slices.Equal(second, want) {
		t.Errorf("what All returned before is %v now", second)
	}
	mustHold(t, x, want...)
	mustLearn(t, x, mac(1), 7)
	mustAge(t, x, 9, 0)
	mustForget(t, x, mac(2), api.OK)
	if !slices.Equal(second, want) {
		t.Errorf("what All returned before is %v now", second)
	}
}

// What Find returned doesn't change with the table.
func TestFindIsApart(t *testing.T) {
	x := tableOf(t, 0, learnt(mac(1), 2, 3))
	e, _ := x.Find(mac(1))
	mustAge(t, x, 9, 0)
	mustFix(t, x, mac(1), 6, api.OK)
	if e != learnt(mac(1), 2, 3) {
		t.Errorf("what Find returned before is %v now", e)
	}
	e.Ports = 7
	mustHold(t, x, fixed(mac(1), 6))
}

// P10.2: a nil table

func TestNilTable(t *testing.T) {
	var x *fdb.Table
	for _, m := range []api.Mac{{}, mac(1), addr.All(), addr.Group()} {
		mustNotLearn(t, x, m, 1)
		mustFix(t, x, m, 1, api.ErrArg)
		mustNotFind(t, x, m)
		mustForget(t, x, m, api.ErrNone)
	}
	for _, n := range []int{-1, 0, 1, 300} {
		mustFlush(t, x, n, 0)
		mustAge(t, x, n, 0)
	}
	x.Start()
	mustHold(t, x)
}

// P10.1 and P10.2 together

// table is what a table does, so that a model of one can do it as well.
type table interface {
	Len() int
	Learn(m api.Mac, port int) bool
	Fix(m api.Mac, ports uint32) api.Errno
	Find(m api.Mac) (fdb.Entry, bool)
	Forget(m api.Mac) api.Errno
	Flush(port int) int
	Older(most int) int
	Start()
	All() []fdb.Entry
}

// model is a table by other means than the program's: a list in the order of the addresses' bytes, which each call goes through.
type model struct {
	most int
	list []fdb.Entry
}

func (x *model) Len() int { return len(x.list) }

func (x *model) index(m api.Mac) int {
	return slices.IndexFunc(x.list, func(e fdb.Entry) bool { return e.Mac == m })
}

// set puts an entry in place of that of its address, or in its place among the others; it reports whether there was room.
func (x *model) set(e fdb.Entry) bool {
	if i := x.index(e.Mac); i >= 0 {
		x.list[i] = e
		return true
	}
	if x.Len() >= max(x.most, 0) {
		return false
	}
	x.list = append(x.list, e)
	slices.SortFunc(x.list, func(a, b fdb.Entry) int { return bytes.Compare(a.Mac[:], b.Mac[:]) })
	return true
}

func (x *model) Learn(m api.Mac, port int) bool {
	i := x.index(m)
	return m[0]&1 == 0 && !(i >= 0 && x.list[i].Static) && x.set(learnt(m, port, 0))
}

func (x *model) Fix(m api.Mac, ports uint32) api.Errno {
	if bytes.HasPrefix(m[:], []byte{1, 0x80, 0xc2, 0, 0}) && m[5] < 16 {
		return api.ErrArg
	}
	if !x.set(fixed(m, ports)) {
		return api.ErrFull
	}
	return api.OK
}

func (x *model) Find(m api.Mac) (fdb.Entry, bool) {
	if i := x.index(m); i >= 0 {
		return x.list[i], true
	}
	return fdb.Entry{}, false
}

func (x *model) Forget(m api.Mac) api.Errno {
	i := x.index(m)
	if i < 0 {
		return api.ErrNone
	}
	x.list = slices.Delete(x.list, i, i+1)
	return api.OK
}

// keep removes all but what stays, and returns how many that were.
func (x *model) keep(stays func(e *fdb.Entry) bool) int {
	var rest []fdb.Entry
	for _, e := range x.list {
		if stays(&e) {
			rest = append(rest, e)
		}
	}
	gone := len(x.list) - len(rest)
	x.list = rest
	return gone
}

func (x *model) Flush(port int) int {
	return x.keep(func(e *fdb.Entry) bool { return e.Static || e.Port != port })
}

func (x *model) Older(most int) int {
	return x.keep(func(e *fdb.Entry) bool {
		if !e.Static {
			e.Age++
		}
		return e.Static || e.Age < most
	})
}

func (x *model) Start() { x.keep(func(e *fdb.Entry) bool { return e.Static }) }

func (x *model) All() []fdb.Entry { return slices.Clone(x.list) }

// used returns the addresses that the calls are about: of stations, of groups, and reserved.
func used() []api.Mac { return []api.Mac{mac(1), mac(2), mac(3), addr.All(), reserved(0)} }

// call is one of a table; what it returns can be compared.
type call func(x table) any

// calls returns one call of each sort, and of each kind of argument.
func calls() []call {
	var l []call
	for _, m := range used() {
		for n := range 2 {
			l = append(l, func(x table) any { return x.Learn(m, n) }, func(x table) any { return x.Fix(m, uint32(n)) })
		}
		l = append(l, func(x table) any { return x.Forget(m) })
	}
	for n := -1; n < 4; n++ {
		l = append(l, func(x table) any { return x.Older(n) })
	}
	for n := -1; n < 3; n++ {
		l = append(l, func(x table) any { return x.Flush(n) })
	}
	return append(l, func(x table) any { x.Start(); return nil })
}

// mustAgree calls a table and its model in turn, with each call by its index, and holds all that they tell against each other.
func mustAgree(t *testing.T, most int, indexes []int) {
	t.Helper()
	x, y, l := fdb.New(most), &model{most: most}, calls()
	for at, i := range indexes {
		if got, want := l[i](x), l[i](y); got != want {
			t.Fatalf("a table for %d: the last one of the calls %v returns %v, not %v", most, indexes[:at+1], got, want)
		}
		if got, want := x.All(), y.All(); !slices.Equal(got, want) || x.Len() != len(want) {
			t.Fatalf("a table for %d: behind the calls %v it holds %v, not %v", most, indexes[:at+1], got, want)
		}
		for _, m := range used() {
			got, ok := x.Find(m)
			if want, wantOK := y.Find(m); got != want || ok != wantOK {
				t.Fatalf("a table for %d: behind the calls %v Find of %v returns %v, %v, not %v, %v", most, indexes[:at+1], m, got, ok, want, wantOK)
			}
		}
	}
}

func TestAllShortSequences(t *testing.T) {
	count := len(calls())
	for most := -1; most < 4; most++ {
		for i := range count * count * count {
			mustAgree(t, most, []int{i / count / count, i / count % count, i % count})
		}
	}
}

func TestLongSequences(t *testing.T) {
	random := rand.New(rand.NewPCG(3, 4))
	count := len(calls())
	for round := range 500 {
		indexes := make([]int, 200)
		for i := range indexes {
			indexes[i] = random.IntN(count)
		}
		mustAgree(t, round%6-1, indexes)
	}
}

func FuzzSequence(f *testing.F) {
	f.Add(2, []byte{0, 1, 2, 3, 30, 26})
	f.Add(-1, []byte{0, 1})
	f.Fuzz(func(t *testing.T, most int, l []byte) {
		var indexes []int
		for _, b := range l {
			indexes = append(indexes, int(b)%len(calls()))
		}
		mustAgree(t, most, indexes)
	})
}
