package vector_test

import (
	"bytes"
	"encoding/binary"
	"math"
	"math/big"
	"slices"
	"testing"

	"catenary/api"
	"catenary/vector"
)

// The greatest numbers of the fields.
const (
	mostBridge = api.BridgeID(math.MaxUint64)
	mostCost   = uint32(math.MaxUint32)
	mostPort   = api.PortID(math.MaxUint16)
)

// middle is a vector whose fields can become less and greater.
var middle = api.Vector{Root: 0x8000_0200_0000_0005, Cost: 200000, Bridge: 0x8000_0200_0000_0007, Port: 0x8003}

// greatest is the vector than which every other one is better.
var greatest = api.Vector{Root: mostBridge, Cost: mostCost, Bridge: mostBridge, Port: mostPort}

// bridges are identifiers of bridges, from the least one on: 0, the greatest, and those in whose middle a part begins or ends.
func bridges() []api.BridgeID {
	return []api.BridgeID{
		0, 1, 255, 256, 1<<31 - 1, 1 << 31, 1<<32 - 1, 1 << 32, 1<<48 - 1, 1 << 48, 1<<60 - 1, 1 << 60,
		1<<63 - 1, 1 << 63, 0x8000_0200_0000_0001, mostBridge - 1, mostBridge,
	}
}

func costs() []uint32 {
	return []uint32{0, 1, 2, 255, 256, 20000, 65535, 65536, api.MaxCost, 1<<31 - 1, 1 << 31, mostCost - 1, mostCost}
}

func ports() []api.PortID {
	return []api.PortID{0, 1, 2, 255, 256, 0x0fff, 0x1000, 0x1001, 0x7fff, 0x8000, 0x8003, mostPort - 1, mostPort}
}

// spread returns vectors of all the fields' ends together with some between them.
func spread() []api.Vector {
	l := []api.Vector{middle}
	for _, root := range []api.BridgeID{0, 1, 1 << 63, mostBridge} {
		for _, cost := range []uint32{0, 1 << 31, mostCost} {
			for _, b := range []api.BridgeID{0, 1, 0x1000_0000_0000_0001, 1 << 63, mostBridge} {
				for _, p := range []api.PortID{0, 1, 0x1001, 0x8000, mostPort} {
					l = append(l, api.Vector{Root: root, Cost: cost, Bridge: b, Port: p})
				}
			}
		}
	}
	return l
}

// layout returns the fields as bytes, one behind the other, so that the order of the bytes is that of the vectors.
func layout(v api.Vector) []byte {
	out := binary.BigEndian.AppendUint64(nil, uint64(v.Root))
	out = binary.BigEndian.AppendUint32(out, v.Cost)
	out = binary.BigEndian.AppendUint64(out, uint64(v.Bridge))
	return binary.BigEndian.AppendUint16(out, uint16(v.Port))
}

// order returns what Compare has to return, by other means than the program's.
func order(a, b api.Vector) int { return bytes.Compare(layout(a), layout(b)) }

// sameSource returns what From has to return, by other means than the program's: the parts' bytes.
func sameSource(a, b api.Vector) bool {
	x, y := layout(a), layout(b)
	return bytes.Equal(x[14:20], y[14:20]) && x[20]%16 == y[20]%16 && x[21] == y[21]
}

func mustCompare(t *testing.T, a, b api.Vector, want int) {
	t.Helper()
	if n := vector.Compare(a, b); n != want {
		t.Errorf("Compare(%x, %x) returns %d, not %d", a, b, n, want)
	}
	if got := vector.Better(a, b); got != (want < 0) {
		t.Errorf("Better(%x, %x) returns %v", a, b, got)
	}
}

// mustBeBetter holds two vectors against each other both ways round.
func mustBeBetter(t *testing.T, a, b api.Vector) {
	t.Helper()
	mustCompare(t, a, b, -1)
	mustCompare(t, b, a, 1)
}

func mustFrom(t *testing.T, a, b api.Vector, want bool) {
	t.Helper()
	if vector.From(a, b) != want || vector.From(b, a) != want {
		t.Errorf("From(%x, %x) returns %v, the other way round %v, not %v", a, b, vector.From(a, b), vector.From(b, a), want)
	}
}

func mustSuperior(t *testing.T, msg, port api.Vector, want bool) {
	t.Helper()
	if got := vector.Superior(msg, port); got != want {
		t.Errorf("Superior(%x, %x) returns %v", msg, port, got)
	}
}

// P8.1: Compare, Better

func TestTheLesserCostIsBetter(t *testing.T) {
	mustBeBetter(t, api.Vector{Cost: 1}, api.Vector{Cost: 2})
}

func TestCompareByOneFieldAlone(t *testing.T) {
	for _, base := range []api.Vector{{}, middle, greatest} {
		for i, less := range bridges() {
			for _, more := range bridges()[i+1:] {
				a, b := base, base
				a.Root, b.Root = less, more
				mustBeBetter(t, a, b)
				a, b = base, base
				a.Bridge, b.Bridge = less, more
				mustBeBetter(t, a, b)
			}
		}
		for i, less := range costs() {
			for _, more := range costs()[i+1:] {
				a, b := base, base
				a.Cost, b.Cost = less, more
				mustBeBetter(t, a, b)
			}
		}
		for i, less := range ports() {
			for _, more := range ports()[i+1:] {
				a, b := base, base
				a.Port, b.Port = less, more
				mustBeBetter(t, a, b)
			}
		}
	}
}

// withLess returns a vector with one field, by its place, a little less, or 0.
func withLess(v api.Vector, field int, far bool) api.Vector {
	switch {
	case field == 0 && far:
		v.Root = 0
	case field == 1 && far:
		v.Cost = 0
	case field == 2 && far:
		v.Bridge = 0
	case field == 3 && far:
		v.Port = 0
	case field == 0:
		v.Root--
	case field == 1:
		v.Cost--
	case field == 2:
		v.Bridge--
	case field == 3:
		v.Port--
	}
	return v
}

// withMore returns a vector with one field, by its place, a little greater, or the greatest.
func withMore(v api.Vector, field int, far bool) api.Vector {
	switch {
	case field == 0 && far:
		v.Root = mostBridge
	case field == 1 && far:
		v.Cost = mostCost
	case field == 2 && far:
		v.Bridge = mostBridge
	case field == 3 && far:
		v.Port = mostPort
	case field == 0:
		v.Root++
	case field == 1:
		v.Cost++
	case field == 2:
		v.Bridge++
	case field == 3:
		v.Port++
	}
	return v
}

// Of two fields that differ, the first one decides, however far the other one is off.
func TestCompareByTwoFields(t *testing.T) {
	for first := range 4 {
		for second := first + 1; second < 4; second++ {
			for _, far := range []bool{false, true} {
				for _, farther := range []bool{false, true} {
					better := withMore(withLess(middle, first, far), second, farther)
					mustBeBetter(t, better, middle)
					worse := withLess(withMore(middle, first, far), second, farther)
					mustBeBetter(t, middle, worse)
					mustBeBetter(t, better, worse)
				}
			}
		}
	}
}

func TestCompareByFirstFieldAgainstAllOthers(t *testing.T) {
	for _, c := range [][2]api.Vector{
		{{Root: 0, Cost: mostCost, Bridge: mostBridge, Port: mostPort}, {Root: 1}},
		{{Root: 7, Cost: 0, Bridge: mostBridge, Port: mostPort}, {Root: 7, Cost: 1}},
		{{Root: 7, Cost: 7, Bridge: 0, Port: mostPort}, {Root: 7, Cost: 7, Bridge: 1}},
		{{Root: mostBridge - 1, Cost: mostCost, Bridge: mostBridge, Port: mostPort}, {Root: mostBridge}},
		{{}, greatest},
	} {
		mustBeBetter(t, c[0], c[1])
	}
}

// The priority is part of the number that is compared, ahead of the address or the number.
func TestCompareCountsPriorities(t *testing.T) {
	a := api.Vector{Root: 0x1000_ffff_ffff_ffff, Bridge: 0x1000_ffff_ffff_ffff, Port: 0x1fff}
	b := api.Vector{Root: 0x2000_0000_0000_0000, Bridge: a.Bridge, Port: a.Port}
	mustBeBetter(t, a, b)
	b = a
	b.Bridge = 0x2000_0000_0000_0000
	mustBeBetter(t, a, b)
	b = a
	b.Bridge = 0x1001_0000_0000_0000
	mustBeBetter(t, a, b)
	b = a
	b.Port = 0x2000
	mustBeBetter(t, a, b)
}

func TestCompareOfEqualVectors(t *testing.T) {
	for _, v := range append(spread(), api.Vector{}, greatest) {
		same := v
		mustCompare(t, v, same, 0)
	}
}

func TestCompareOfAllPairs(t *testing.T) {
	l := spread()
	for _, a := range l {
		for _, b := range l {
			mustCompare(t, a, b, order(a, b))
		}
	}
}

// P8.1: From

func TestFromByTheBridge(t *testing.T) {
	a := api.Vector{Bridge: 0x8000_0200_0000_0001, Port: 0x8003}
	for _, c := range []struct {
		b    api.BridgeID
		want bool
	}{
		{0x8000_0200_0000_0001, true},
		// the same address, another priority, or other bits behind it
		{0x1000_0200_0000_0001, true}, {0xf000_0200_0000_0001, true}, {0x0000_0200_0000_0001, true},
		{0x8001_0200_0000_0001, true}, {0x8fff_0200_0000_0001, true}, {0x0123_0200_0000_0001, true},
		// the same priority, another address
		{0x8000_0200_0000_0002, false}, {0x8000_0200_0000_0000, false}, {0x8000_0300_0000_0001, false}, {0x8000_0200_0001_0001, false},
		// neither
		{0x1000_0200_0000_0002, false}, {0, false}, {mostBridge, false},
	} {
		mustFrom(t, a, api.Vector{Bridge: c.b, Port: 0x8003}, c.want)
		mustFrom(t, a, api.Vector{Bridge: c.b, Port: 0x1003}, c.want)
		mustFrom(t, a, api.Vector{Bridge: c.b, Port: 0x8004}, false)
	}
}

func TestFromByThePort(t *testing.T) {
	a := api.Vector{Bridge: 0x8000_0200_0000_0001, Port: 0x8003}
	for _, c := range []struct {
		p    api.PortID
		want bool
	}{
		{0x8003, true},
		// the same number, another priority
		{0x0003, true}, {0x1003, true}, {0x7003, true}, {0xf003, true},
		// the same priority, another number
		{0x8002, false}, {0x8004, false}, {0x8000, false}, {0x8103, false}, {0x8803, false}, {0x8fff, false},
		// neither
		{0x1004, false}, {0, false}, {mostPort, false},
	} {
		mustFrom(t, a, api.Vector{Bridge: a.Bridge, Port: c.p}, c.want)
		mustFrom(t, a, api.Vector{Bridge: 0x1000_0200_0000_0001, Port: c.p}, c.want)
		mustFrom(t, a, api.Vector{Bridge: 0x8000_0200_0000_0002, Port: c.p}, false)
	}
}

// One bit of the Bridge or the Port counts, if it is of the address or of the number.
func TestFromOfEachBit(t *testing.T) {
	for _, v := range []api.Vector{{}, middle, greatest} {
		for bit := range 64 {
			other := v
			other.Bridge ^= 1 << bit
			mustFrom(t, v, other, bit >= 48)
		}
		for bit := range 16 {
			other := v
			other.Port ^= 1 << bit
			mustFrom(t, v, other, bit >= 12)
		}
	}
}

func TestFromWhateverTheRootAndTheCost(t *testing.T) {
	for _, root := range bridges() {
		for _, cost := range costs() {
			mustFrom(t, middle, api.Vector{Root: root, Cost: cost, Bridge: middle.Bridge, Port: middle.Port}, true)
			mustFrom(t, middle, api.Vector{Root: middle.Root, Cost: middle.Cost, Bridge: root, Port: middle.Port}, uint64(root)<<16 == uint64(middle.Bridge)<<16)
		}
	}
}

// P8.1: Superior

func TestSuperior(t *testing.T) {
	port := middle
	other := middle
	other.Bridge = 0x8000_0200_0000_0008
	elsewhere := middle
	elsewhere.Port = 0x8004
	renamed := middle
	renamed.Bridge, renamed.Port = 0xf000_0200_0000_0007, 0xf003
	for _, c := range []struct {
		msg  api.Vector
		want bool
	}{
		// equal
		{port, false},
		// better, from the same source
		{withLess(port, 0, false), true}, {withLess(port, 1, false), true},
		// worse, from the same source
		{withMore(port, 0, false), true}, {withMore(port, 0, true), true}, {withMore(port, 1, false), true}, {withMore(port, 1, true), true},
		{renamed, true}, {withMore(renamed, 0, true), true}, {withMore(renamed, 1, true), true},
		// better, from another source
		{withLess(other, 0, false), true}, {withLess(other, 1, false), true}, {withLess(port, 2, false), true}, {withLess(port, 3, false), true},
		{withLess(elsewhere, 0, false), true}, {api.Vector{}, true},
		// worse, from another source
		{other, false}, {elsewhere, false}, {withMore(other, 0, false), false}, {withMore(other, 1, true), false},
		{withMore(elsewhere, 0, true), false}, {withMore(elsewhere, 1, false), false}, {greatest, false},
	} {
		mustSuperior(t, c.msg, port, c.want)
	}
}

// From the same source, a message that differs in a priority alone is superior both ways round.
func TestSuperiorWithAnotherPriority(t *testing.T) {
	for bit := range 4 {
		other := middle
		other.Bridge ^= 1 << (60 + bit)
		mustSuperior(t, other, middle, true)
		mustSuperior(t, middle, other, true)
		other = middle
		other.Port ^= 1 << (12 + bit)
		mustSuperior(t, other, middle, true)
		mustSuperior(t, middle, other, true)
	}
}

func TestSuperiorOfAllPairs(t *testing.T) {
	l := spread()
	for _, a := range l {
		for _, b := range l {
			n := order(a, b)
			mustFrom(t, a, b, sameSource(a, b))
			mustSuperior(t, a, b, n < 0 || n > 0 && sameSource(a, b))
		}
	}
}

// P8.1: Add, Through

func mustAdd(t *testing.T, a, b, want uint32) {
	t.Helper()
	if n := vector.Add(a, b); n != want {
		t.Errorf("Add(%d, %d) returns %d, not %d", a, b, n, want)
	}
	if n := vector.Add(b, a); n != want {
		t.Errorf("Add(%d, %d) returns %d, not %d", b, a, n, want)
	}
}

func TestAddWrittenOut(t *testing.T) {
	for _, c := range [][3]uint32{
		{0, 0, 0}, {0, 1, 1}, {1, 2, 3}, {20000, 200000, 220000}, {api.MaxCost, api.MaxCost, 400000000},
		// one less than the greatest, exactly that, and one more
		{4294967294, 0, 4294967294}, {4294967293, 1, 4294967294}, {2147483647, 2147483647, 4294967294},
		{4294967295, 0, 4294967295}, {4294967294, 1, 4294967295}, {2147483648, 2147483647, 4294967295},
		{4294967295, 1, 4294967295}, {4294967294, 2, 4294967295}, {2147483648, 2147483648, 4294967295},
		// by far more
		{4294967295, 2, 4294967295}, {4294967295, 2147483648, 4294967295}, {4294967295, 4294967294, 4294967295}, {4294967295, 4294967295, 4294967295},
	} {
		mustAdd(t, c[0], c[1], c[2])
	}
}

func TestAddOfAllPairs(t *testing.T) {
	limit := big.NewInt(1<<32 - 1)
	for _, a := range costs() {
		for _, b := range costs() {
			sum := new(big.Int).Add(big.NewInt(int64(a)), big.NewInt(int64(b)))
			if sum.Cmp(limit) > 0 {
				sum = limit
			}
			mustAdd(t, a, b, uint32(sum.Uint64()))
		}
	}
}

func mustThrough(t *testing.T, v api.Vector, cost, want uint32) {
	t.Helper()
	given := v
	v.Cost = want
	if got := vector.Through(given, cost); got != v {
		t.Errorf("Through(%x, %d) returns %x, not %x", given, cost, got, v)
	}
}

func TestThrough(t *testing.T) {
	mustThrough(t, middle, 0, 200000)
	mustThrough(t, middle, 1, 200001)
	mustThrough(t, middle, 20000, 220000)
	mustThrough(t, middle, 4294767294, 4294967294)
	mustThrough(t, middle, 4294767295, 4294967295)
	mustThrough(t, middle, 4294767296, 4294967295)
	mustThrough(t, middle, mostCost, mostCost)
	mustThrough(t, api.Vector{}, 0, 0)
	mustThrough(t, api.Vector{}, 5, 5)
	mustThrough(t, api.Vector{}, mostCost, mostCost)
	mustThrough(t, greatest, 0, mostCost)
	mustThrough(t, greatest, 1, mostCost)
	mustThrough(t, greatest, mostCost, mostCost)
}

// P8.2: Own, Tell

func TestOwn(t *testing.T) {
	for _, b := range append(bridges(), middle.Root) {
		if v := vector.Own(b); v != (api.Vector{Root: b, Cost: 0, Bridge: b, Port: 0}) {
			t.Errorf("Own(%x) returns %x", b, v)
		}
	}
}

func mustTell(t *testing.T, root api.Vector, b api.BridgeID, p api.PortID) {
	t.Helper()
	v := vector.Tell(root, b, p)
	if v.Root != root.Root || v.Cost != root.Cost || v.Bridge != b || v.Port != p {
		t.Errorf("Tell(%x, %x, %x) returns %x", root, b, p, v)
	}
}

// The Bridge and the Port of the root vector, zero or not, are left behind.
func TestTell(t *testing.T) {
	want := api.Vector{Root: middle.Root, Cost: middle.Cost, Bridge: 0x9000_0200_0000_0009, Port: 0x1002}
	if v := vector.Tell(middle, 0x9000_0200_0000_0009, 0x1002); v != want {
		t.Errorf("%x", v)
	}
	if v := vector.Tell(greatest, 0, 0); v != (api.Vector{Root: mostBridge, Cost: mostCost}) {
		t.Errorf("%x", v)
	}
	for _, root := range []api.Vector{{}, middle, greatest, vector.Own(middle.Bridge)} {
		for _, b := range bridges() {
			for _, p := range ports() {
				mustTell(t, root, b, p)
			}
		}
	}
}

// P8.2: Best

func mustBest(t *testing.T, l []api.Vector, on []api.PortID, want int) {
	t.Helper()
	vectors, ids := slices.Clone(l), slices.Clone(on)
	if n := vector.Best(l, on); n != want {
		t.Errorf("Best(%x, %x) returns %d, not %d", l, on, n, want)
	}
	if !slices.Equal(l, vectors) || !slices.Equal(on, ids) {
		t.Errorf("Best changes what it is given: %x %x", l, on)
	}
}

func TestBestOfNone(t *testing.T) {
	l, on := []api.Vector{middle, {}}, []api.PortID{1, 0}
	mustBest(t, nil, nil, -1)
	mustBest(t, []api.Vector{}, []api.PortID{}, -1)
	mustBest(t, nil, []api.PortID{}, -1)
	mustBest(t, []api.Vector{}, nil, -1)
	mustBest(t, l, nil, -1)
	mustBest(t, l, []api.PortID{}, -1)
	mustBest(t, nil, on, -1)
	mustBest(t, []api.Vector{}, on, -1)
	mustBest(t, l[:0], on[:0], -1)
}

func TestBestOfOne(t *testing.T) {
	for _, v := range []api.Vector{{}, middle, greatest} {
		for _, p := range []api.PortID{0, 1, mostPort} {
			mustBest(t, []api.Vector{v}, []api.PortID{p}, 0)
		}
	}
}

func TestBestByTheVector(t *testing.T) {
	l := []api.Vector{{}, withLess(middle, 0, false), withLess(middle, 1, false), withLess(middle, 2, false), withLess(middle, 3, false), middle, greatest}
	for best := range len(l) - 1 {
		for at := range l {
			// The best one, at every place, with the greatest port, among worse ones with lesser ports.
			given, on := make([]api.Vector, len(l)), make([]api.PortID, len(l))
			for i := range given {
				given[i], on[i] = l[min(best+1+i%2, len(l)-1)], api.PortID(i)
			}
			given[at], on[at] = l[best], mostPort
			mustBest(t, given, on, at)
		}
	}
}

func TestBestOfEqualVectorsByThePort(t *testing.T) {
	v := middle
	mustBest(t, []api.Vector{v, v, v}, []api.PortID{3, 1, 2}, 1)
	mustBest(t, []api.Vector{v, v, v}, []api.PortID{1, 2, 3}, 0)
	mustBest(t, []api.Vector{v, v, v}, []api.PortID{3, 2, 1}, 2)
	mustBest(t, []api.Vector{v, v, v}, []api.PortID{mostPort, mostPort - 1, mostPort}, 1)
	mustBest(t, []api.Vector{v, v}, []api.PortID{0x8000, 0x7fff}, 1)
	// the priority of a port precedes its number
	mustBest(t, []api.Vector{v, v}, []api.PortID{0x2001, 0x1fff}, 1)
	// the port 0 of a worse vector doesn't count
	mustBest(t, []api.Vector{greatest, v, v, greatest}, []api.PortID{0, 9, 8, 0}, 2)
	// the vectors' own ports come first
	mustBest(t, []api.Vector{{Port: 2}, {Port: 1}}, []api.PortID{1, 2}, 1)
	mustBest(t, []api.Vector{{Port: 1}, {Port: 2}}, []api.PortID{2, 1}, 0)
}

func TestBestOfEqualOnesIsTheFirst(t *testing.T) {
	for _, v := range []api.Vector{{}, middle, greatest} {
		for _, p := range []api.PortID{0, 5, mostPort} {
			mustBest(t, []api.Vector{v, v}, []api.PortID{p, p}, 0)
			mustBest(t, []api.Vector{v, v, v, v}, []api.PortID{p, p, p, p}, 0)
		}
	}
	mustBest(t, []api.Vector{greatest, middle, greatest, middle, middle}, []api.PortID{0, 5, 0, 5, 5}, 1)
	mustBest(t, []api.Vector{middle, middle, middle, middle}, []api.PortID{6, 5, 6, 5}, 1)
}

// Of the longer list, the elements that the shorter one doesn't have don't count, however good they are.
func TestBestOfDifferentLengths(t *testing.T) {
	l := []api.Vector{greatest, middle, middle, {}, {}}
	on := []api.PortID{4, 3, 2, 1, 0}
	want := []int{-1, 0, 1, 2, 3, 4}
	for n := range want {
		mustBest(t, l[:n:n], on, want[n])
		mustBest(t, l, on[:n:n], want[n])
		mustBest(t, l[:n], on[:n], want[n])
	}
}

func TestBestOfAllShortLists(t *testing.T) {
	vectors := []api.Vector{{Cost: 1}, {Cost: 1, Port: 1}, {Cost: 2}}
	var all func(l []api.Vector, on []api.PortID)
	all = func(l []api.Vector, on []api.PortID) {
		want := -1
		for i := range l {
			firsts := true
			for k := range l {
				n := 2*order(l[i], l[k]) + max(-1, min(1, int(on[i])-int(on[k])))
				firsts = firsts && (n < 0 || n == 0 && i <= k)
			}
			if firsts {
				want = i
			}
		}
		mustBest(t, l, on, want)
		if len(l) == 4 {
			return
		}
		for _, v := range vectors {
			for p := range api.PortID(3) {
				all(append(l[:len(l):len(l)], v), append(on[:len(on):len(on)], p))
			}
		}
	}
	all(nil, nil)
}

// Elements beyond the lengths stay too, and the same call returns the same again.
func TestBestLeavesItsLists(t *testing.T) {
	l := []api.Vector{greatest, middle, {}, {}}
	on := []api.PortID{1, 2, 3, 0}
	vectors, ids := slices.Clone(l), slices.Clone(on)
	for range 3 {
		if n := vector.Best(l[:3], on[:2]); n != 1 {
			t.Error(n)
		}
	}
	if !slices.Equal(l, vectors) || !slices.Equal(on, ids) {
		t.Errorf("%x %x", l, on)
	}
}
