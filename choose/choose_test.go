package choose_test

import (
	"bytes"
	"encoding/binary"
	"math"
	"reflect"
	"slices"
	"testing"

	"catenary/api"
	"catenary/choose"
)

// self is the identifier of the bridge whose ports get roles; the other bridges' are less or greater than it.
const (
	self    = api.BridgeID(0x8000_0200_0000_0005)
	least   = api.BridgeID(0x8000_0200_0000_0001)
	less    = api.BridgeID(0x8000_0200_0000_0003)
	greater = api.BridgeID(0x8000_0200_0000_0007)
	most    = api.BridgeID(0x8000_0200_0000_0009)
)

// mostCost is the greatest cost.
const mostCost = uint32(math.MaxUint32)

var (
	// ownTimes are the bridge's; each of them differs from those of the ports.
	ownTimes = api.Times{Max: 20, Hello: 2, Delay: 15}
	// rootTimes are those of a message from the root.
	rootTimes = api.Times{Age: 3, Max: 18, Hello: 1, Delay: 14}
	// ownVector is the root vector of the bridge where it is the root itself.
	ownVector = api.Vector{Root: self, Bridge: self}
)

// filled returns a port in which each field has a value that isn't zero, and that Update has to change or to leave.
func filled(id api.PortID) api.Port {
	var p api.Port
	fill(reflect.ValueOf(&p).Elem(), 40)
	p.ID, p.Cost = id, 20
	return p
}

// fill sets all that a value is made of to numbers from n on, and to true.
func fill(v reflect.Value, n int) int {
	switch v.Kind() {
	case reflect.Struct:
		for i := range v.NumField() {
			n = fill(v.Field(i), n)
		}
		return n
	case reflect.Bool:
		v.SetBool(true)
	case reflect.Int:
		v.SetInt(int64(n))
	default:
		v.SetUint(uint64(n))
	}
	return n + 1
}

// portOf returns a port whose vector is from there, with the times of a message from the root.
func portOf(id api.PortID, from api.Info, v api.Vector) api.Port {
	p := filled(id)
	p.InfoIs, p.Vector, p.PortTimes = from, v, rootTimes
	return p
}

// received returns a port that has received the vector, and whose Cost is this one.
func received(id api.PortID, cost uint32, v api.Vector) api.Port {
	p := portOf(id, api.Received, v)
	p.Cost = cost
	return p
}

// bridgeOf returns a bridge with these ports; what Update sets is something else before.
func bridgeOf(ports ...api.Port) api.Bridge {
	return api.Bridge{
		ID: self, Times: ownTimes, TxHold: 6, Rstp: true, Prs: 3,
		Root: api.Vector{Root: 1, Cost: 2, Bridge: 3, Port: 4}, RootPort: 77, RootTimes: api.Times{Age: 1, Max: 2, Hello: 3, Delay: 4},
		Ports: ports,
	}
}

// copied returns a bridge that shares nothing with b.
func copied(b api.Bridge) api.Bridge {
	b.Ports = slices.Clone(b.Ports)
	return b
}

// What becomes of UpdtInfo.
type change int

const (
	stays change = iota
	off
	on
)

// after returns what UpdtInfo is then.
func (c change) after(before bool) bool { return c == on || c == stays && before }

// got is what a port has to get.
type got struct {
	role api.Role
	updt change
}

// wanted returns the bridge that Update has to leave, by its root and by what each port gets.
func wanted(b api.Bridge, root api.Vector, rootPort api.PortID, at api.Times, l []got) api.Bridge {
	b = copied(b)
	b.Root, b.RootPort, b.RootTimes = root, rootPort, at
	for i := range b.Ports {
		p := &b.Ports[i]
		p.DesignatedVector = api.Vector{Root: root.Root, Cost: root.Cost, Bridge: b.ID, Port: p.ID}
		p.DesignatedTimes = api.Times{Age: at.Age, Max: at.Max, Hello: b.Times.Hello, Delay: at.Delay}
		p.SelectedRole, p.UpdtInfo = l[i].role, l[i].updt.after(p.UpdtInfo)
	}
	return b
}

// mustUpdate runs Update with UpdtInfo true, false, and by turns before, and looks at all of the bridge.
func mustUpdate(t *testing.T, b api.Bridge, root api.Vector, rootPort api.PortID, at api.Times, l ...got) {
	t.Helper()
	if len(l) != len(b.Ports) {
		t.Fatalf("%d ports, but %d to get something", len(b.Ports), len(l))
	}
	for bits := range 4 {
		given := copied(b)
		for i := range given.Ports {
			given.Ports[i].UpdtInfo = bits>>(i%2)&1 != 0
		}
		want := wanted(given, root, rootPort, at, l)
		choose.Update(&given)
		mustBe(t, given, want)
		// A second call finds what the first one has set, and makes the same of it.
		choose.Update(&given)
		mustBe(t, given, want)
	}
}

func mustBe(t *testing.T, b, want api.Bridge) {
	t.Helper()
	if b.Root != want.Root || b.RootPort != want.RootPort || b.RootTimes != want.RootTimes {
		t.Errorf("Root %x, RootPort %x, RootTimes %v, not %x, %x, %v", b.Root, b.RootPort, b.RootTimes, want.Root, want.RootPort, want.RootTimes)
	}
	for i, p := range b.Ports {
		w := want.Ports[i]
		if p.DesignatedVector != w.DesignatedVector || p.DesignatedTimes != w.DesignatedTimes {
			t.Errorf("port %d: DesignatedVector %x, DesignatedTimes %v, not %x, %v", i, p.DesignatedVector, p.DesignatedTimes, w.DesignatedVector, w.DesignatedTimes)
		}
		if p.SelectedRole != w.SelectedRole || p.UpdtInfo != w.UpdtInfo {
			t.Errorf("port %d: SelectedRole %d, UpdtInfo %v, not %d, %v", i, p.SelectedRole, p.UpdtInfo, w.SelectedRole, w.UpdtInfo)
		}
		if p != w {
			t.Errorf("port %d: %v, not %v", i, p, w)
		}
	}
	if !reflect.DeepEqual(b, want) {
		t.Errorf("%v, not %v", b, want)
	}
}

// mustHaveNoRoot is mustUpdate for a bridge without a root port.
func mustHaveNoRoot(t *testing.T, b api.Bridge, l ...got) {
	t.Helper()
	mustUpdate(t, b, api.Vector{Root: b.ID, Bridge: b.ID}, 0, b.Times, l...)
}

// mustChoose runs Update on a bridge all of whose ports are Received, and looks for the root port by its index; -1: none.
func mustChoose(t *testing.T, index int, root api.Vector, ports ...api.Port) {
	t.Helper()
	b := bridgeOf(ports...)
	choose.Update(&b)
	if index < 0 {
		if b.Root != root || b.RootPort != 0 || b.RootTimes != b.Times {
			t.Errorf("Root %x, RootPort %x, RootTimes %v, but there is no root port", b.Root, b.RootPort, b.RootTimes)
		}
	} else if b.Root != root || b.RootPort != ports[index].ID {
		t.Errorf("Root %x, RootPort %x, not %x, %x", b.Root, b.RootPort, root, ports[index].ID)
	}
	for i, p := range b.Ports {
		if (p.SelectedRole == api.Root) != (i == index) {
			t.Errorf("port %d: SelectedRole %d, but the root port is %d", i, p.SelectedRole, index)
		}
	}
}

// P9.1

func TestUpdateOfNoBridge(t *testing.T) {
	choose.Update(nil)
}

func TestUpdateOfBridgeWithoutPorts(t *testing.T) {
	mustHaveNoRoot(t, bridgeOf())
	mustHaveNoRoot(t, bridgeOf([]api.Port{}...))
	var b api.Bridge
	choose.Update(&b)
	if !reflect.DeepEqual(b, api.Bridge{}) {
		t.Errorf("an empty bridge becomes %v", b)
	}
}

func TestUpdateOfBridgeWhosePortsAreMine(t *testing.T) {
	good := api.Vector{Root: least, Bridge: least, Port: 0x8001}
	d := got{api.Designated, on}
	mustHaveNoRoot(t, bridgeOf(portOf(0x8001, api.Mine, good)), d)
	mustHaveNoRoot(t, bridgeOf(portOf(0x8001, api.Mine, good), portOf(0x8002, api.Mine, api.Vector{}), portOf(0x8003, api.Mine, ownVector)), d, d, d)
}

// Only a port that is Received can be the root port, however good the vector of another one is.
func TestRootOfEachInfoAlone(t *testing.T) {
	good := api.Vector{Root: least, Bridge: least, Port: 0x8001}
	for _, c := range []struct {
		from api.Info
		get  got
	}{
		{api.InfoDisabled, got{api.Disabled, stays}}, {api.Aged, got{api.Designated, on}}, {api.Mine, got{api.Designated, on}},
	} {
		mustHaveNoRoot(t, bridgeOf(portOf(0x8001, c.from, good)), c.get)
		mustHaveNoRoot(t, bridgeOf(portOf(0x8001, c.from, api.Vector{})), c.get)
	}
	mustUpdate(t, bridgeOf(portOf(0x8001, api.Received, good)),
		api.Vector{Root: least, Cost: 20, Bridge: least, Port: 0x8001}, 0x8001, api.Times{Age: 4, Max: 18, Hello: 1, Delay: 14},
		got{api.Root, off})
}

func TestRootOfAllInfosTogether(t *testing.T) {
	good := api.Vector{Root: least, Bridge: least, Port: 0x8001}
	worse := api.Vector{Root: less, Cost: 7, Bridge: less, Port: 0x8001}
	b := bridgeOf(
		portOf(0x8001, api.InfoDisabled, good), portOf(0x8002, api.Aged, good), portOf(0x8003, api.Mine, good),
		portOf(0x8004, api.Received, worse), portOf(0x8005, api.Received, withCost(worse, 8)),
	)
	mustUpdate(t, b, withCost(worse, 27), 0x8004, api.Times{Age: 4, Max: 18, Hello: 1, Delay: 14},
		got{api.Disabled, stays}, got{api.Designated, on}, got{api.Designated, on}, got{api.Root, off}, got{api.Alternate, off})
}

func withCost(v api.Vector, cost uint32) api.Vector {
	v.Cost = cost
	return v
}

func withBridge(v api.Vector, b api.BridgeID) api.Vector {
	v.Bridge = b
	return v
}

// What the bridge itself has sent doesn't lead to the root, whatever the priorities and however good the vector is.
func TestRootIsNotBehindOwnVectors(t *testing.T) {
	for _, v := range []api.Vector{
		ownVector,
		{Root: least, Bridge: self, Port: 0x8002}, {Root: least, Bridge: self, Port: 0x8001}, {Bridge: self}, {Root: most, Cost: 9, Bridge: self, Port: 1},
		{Bridge: 0x0000_0200_0000_0005}, {Bridge: 0x1000_0200_0000_0005}, {Bridge: 0xf000_0200_0000_0005, Port: 0x8002}, {Root: 0, Bridge: 0x7fff_0200_0000_0005},
		{Root: least, Bridge: 0x1000_0200_0000_0005, Port: 0x8009}, {Root: 0x1000_0200_0000_0005, Bridge: 0x1000_0200_0000_0005, Port: 0x8002},
	} {
		mustChoose(t, -1, ownVector, received(0x8001, 0, v))
		mustChoose(t, -1, ownVector, received(0x8001, 20, v))
		// They don't keep a worse one from being the root port, on either side of it.
		other := api.Vector{Root: less, Cost: 300, Bridge: most, Port: 0x8001}
		mustChoose(t, 0, withCost(other, 320), received(0x8002, 20, other), received(0x8001, 0, v))
		mustChoose(t, 1, withCost(other, 320), received(0x8001, 0, v), received(0x8002, 20, other))
	}
}

// Each bit of the address makes another bridge of it; the sixteen bits before it don't.
func TestRootByEachBitOfTheBridge(t *testing.T) {
	for _, id := range []api.BridgeID{self, 1, math.MaxUint64, 0x1234_0200_0000_0005} {
		for bit := range 64 {
			v := api.Vector{Root: 0, Bridge: id ^ 1<<bit, Port: 0x8001}
			b := bridgeOf(received(0x8002, 0, v))
			b.ID = id
			choose.Update(&b)
			if root := b.Ports[0].SelectedRole == api.Root; root != (bit < 48) {
				t.Errorf("bridge %x, vector from %x: root port %v", id, v.Bridge, root)
			}
		}
	}
}

// The Root may have the bridge's address: it is the Bridge that tells whose vector it is.
func TestRootOfVectorWithOwnRoot(t *testing.T) {
	v := api.Vector{Root: 0x1000_0200_0000_0005, Cost: 5, Bridge: most, Port: 0x8001}
	mustChoose(t, 0, withCost(v, 25), received(0x8001, 20, v))
	v = api.Vector{Root: 0xf000_0200_0000_0005, Cost: 5, Bridge: most, Port: 0x8001}
	mustChoose(t, -1, ownVector, received(0x8001, 20, v))
}

func TestRootIsBetterThanOwn(t *testing.T) {
	for _, c := range []struct {
		v    api.Vector
		cost uint32
		root bool
	}{
		// by the Root
		{api.Vector{Root: self - 1, Cost: mostCost, Bridge: most, Port: math.MaxUint16}, mostCost, true}, {api.Vector{Root: self + 1}, 0, false},
		{api.Vector{Root: least, Cost: 5, Bridge: most, Port: 1}, 20, true}, {api.Vector{Root: most, Bridge: most}, 20, false},
		{api.Vector{}, 0, true}, {api.Vector{}, mostCost, true}, {api.Vector{Root: math.MaxUint64}, 0, false},
		{api.Vector{Root: 0x7000_ffff_ffff_ffff, Bridge: most}, 20, true}, {api.Vector{Root: 0x9000_0000_0000_0000, Bridge: most}, 20, false},
		// by the Cost
		{api.Vector{Root: self, Cost: 1, Bridge: least}, 0, false}, {api.Vector{Root: self, Cost: 0, Bridge: least}, 1, false},
		{api.Vector{Root: self, Cost: mostCost, Bridge: least}, mostCost, false}, {api.Vector{Root: self, Cost: mostCost, Bridge: least}, 1, false},
		// by the Bridge
		{api.Vector{Root: self, Bridge: self - 1, Port: math.MaxUint16}, 0, true}, {api.Vector{Root: self, Bridge: least, Port: 0x8001}, 0, true},
		{api.Vector{Root: self, Bridge: self + 1}, 0, false}, {api.Vector{Root: self, Bridge: most, Port: 0x8001}, 0, false},
		// equal, or worse by the Port alone: these are the bridge's own
		{ownVector, 0, false}, {ownVector, 1, false}, {api.Vector{Root: self, Bridge: self, Port: 1}, 0, false},
	} {
		if c.root {
			mustChoose(t, 0, withCost(c.v, sum(c.v.Cost, c.cost)), received(0x8003, c.cost, c.v))
		} else {
			mustChoose(t, -1, ownVector, received(0x8003, c.cost, c.v))
		}
	}
}

// sum returns the sum of two costs, at most the greatest one, by other means than the program's.
func sum(a, b uint32) uint32 {
	if mostCost-a < b {
		return mostCost
	}
	return a + b
}

// One that is better than the bridge's own vector is found among those that aren't.
func TestRootAmongWorse(t *testing.T) {
	good := api.Vector{Root: least, Cost: 5, Bridge: less, Port: 0x8001}
	bad := api.Vector{Root: most, Bridge: most, Port: 0x8001}
	for at := range 4 {
		ports := []api.Port{received(0x8004, 20, bad), received(0x8003, 20, bad), received(0x8002, 20, bad), received(0x8001, 20, bad)}
		mustChoose(t, -1, ownVector, ports...)
		ports[at].Vector = good
		mustChoose(t, at, withCost(good, 25), ports...)
	}
}

// mustPrefer holds two ports against each other in both orders; the first one is the root port.
func mustPrefer(t *testing.T, root api.Vector, p, other api.Port) {
	t.Helper()
	mustChoose(t, 0, root, p, other)
	mustChoose(t, 1, root, other, p)
	mustChoose(t, 1, root, other, p, other)
}

func TestRootByEachFieldOfTheVector(t *testing.T) {
	v := api.Vector{Root: less, Cost: 50, Bridge: greater, Port: 0x8004}
	for _, c := range []struct{ better, worse api.Vector }{
		{api.Vector{Root: least, Cost: 900, Bridge: most, Port: 0xf004}, v},
		{api.Vector{Root: less, Cost: 49, Bridge: most, Port: 0xf004}, v},
		{api.Vector{Root: less, Cost: 50, Bridge: greater - 1, Port: 0xf004}, v},
		{api.Vector{Root: less, Cost: 50, Bridge: 0x7000_0200_0000_0009, Port: 0xf004}, v},
		{api.Vector{Root: less, Cost: 50, Bridge: greater, Port: 0x8003}, v},
		{api.Vector{Root: less, Cost: 50, Bridge: greater, Port: 0x7005}, v},
	} {
		// The vector decides before the ID does.
		root := withCost(c.better, c.better.Cost+20)
		mustPrefer(t, root, received(0x8002, 20, c.better), received(0x8001, 20, c.worse))
		mustPrefer(t, root, received(0x8001, 20, c.better), received(0x8002, 20, c.worse))
		mustPrefer(t, root, received(0x8001, 20, c.better), received(0x8001, 20, c.worse))
	}
}

// The least vector isn't the least behind its Cost.
func TestRootCountsTheCost(t *testing.T) {
	near := api.Vector{Root: least, Cost: 0, Bridge: least, Port: 0x8001}
	far := api.Vector{Root: least, Cost: 100, Bridge: most, Port: 0xf001}
	mustPrefer(t, withCost(far, 120), received(0x8002, 20, far), received(0x8001, 200, near))
	mustPrefer(t, withCost(far, 199), received(0x8002, 99, far), received(0x8001, 200, near))
	mustPrefer(t, withCost(near, 200), received(0x8002, 200, near), received(0x8001, 100, far))
	mustPrefer(t, withCost(near, 200), received(0x8002, 200, near), received(0x8001, 101, far))
	// The cost of a port doesn't make good a worse root.
	mustPrefer(t, withCost(near, mostCost), received(0x8002, mostCost, near), received(0x8001, 0, api.Vector{Root: less, Bridge: less}))
}

// Behind their Costs the vectors are equal, though they weren't before: the ID decides, in either order.
func TestRootByTheID(t *testing.T) {
	v := api.Vector{Root: least, Cost: 100, Bridge: less, Port: 0x8003}
	for _, c := range [][2]api.PortID{
		{0x8001, 0x8002}, {0x7002, 0x8001}, {0, 1}, {0, math.MaxUint16}, {math.MaxUint16 - 1, math.MaxUint16}, {0x0fff, 0x1000}, {0x00ff, 0x0100},
	} {
		mustPrefer(t, withCost(v, 150), received(c[0], 50, v), received(c[1], 70, withCost(v, 80)))
		mustPrefer(t, withCost(v, 150), received(c[0], 70, withCost(v, 80)), received(c[1], 50, v))
		mustPrefer(t, withCost(v, 150), received(c[0], 50, v), received(c[1], 50, v))
	}
}

// With the same ID, the first one of them is the root port, and it alone.
func TestRootByTheOrder(t *testing.T) {
	v := api.Vector{Root: least, Cost: 100, Bridge: less, Port: 0x8003}
	a, b := received(0x8002, 50, v), received(0x8002, 70, withCost(v, 80))
	b.PortTimes.Age = 7
	for i, ports := range [][]api.Port{{a, b}, {b, a}, {a, b, b}, {b, a, a}} {
		bridge := bridgeOf(ports...)
		rest := slices.Repeat([]got{{api.Alternate, off}}, len(ports)-1)
		age := []int{4, 8}[i%2]
		mustUpdate(t, bridge, withCost(v, 150), 0x8002, api.Times{Age: age, Max: 18, Hello: 1, Delay: 14}, append([]got{{api.Root, off}}, rest...)...)
	}
}

// The root port may have the ID that RootPort has where there is none.
func TestRootPortWithTheIDZero(t *testing.T) {
	v := api.Vector{Root: least, Cost: 100, Bridge: less, Port: 0x8003}
	mustUpdate(t, bridgeOf(received(1, 20, v), received(0, 20, v), received(0, 20, v)), withCost(v, 120), 0, api.Times{Age: 4, Max: 18, Hello: 1, Delay: 14},
		got{api.Alternate, off}, got{api.Root, off}, got{api.Alternate, off})
}

func TestRootCostBeyondTheGreatest(t *testing.T) {
	v := api.Vector{Root: least, Cost: mostCost, Bridge: less, Port: 0x8003}
	for _, c := range [][2]uint32{{mostCost, 1}, {mostCost, mostCost}, {1 << 31, 1 << 31}, {1, mostCost}, {mostCost, 0}, {mostCost - 1, 1}} {
		mustChoose(t, 0, v, received(0x8001, c[1], withCost(v, c[0])))
		// It isn't less than one that is beyond it by little, or not at all.
		mustPrefer(t, v, received(0x8001, c[1], withCost(v, c[0])), received(0x8002, 1, v))
		mustPrefer(t, v, received(0x8001, 1, v), received(0x8002, c[1], withCost(v, c[0])))
		mustPrefer(t, withCost(v, mostCost-1), received(0x8002, 1, withCost(v, mostCost-2)), received(0x8001, c[1], withCost(v, c[0])))
	}
}

func TestRootTimesOfRootPort(t *testing.T) {
	v := api.Vector{Root: least, Cost: 100, Bridge: less, Port: 0x8003}
	for _, c := range [][2]api.Times{
		{rootTimes, {Age: 4, Max: 18, Hello: 1, Delay: 14}},
		{{Max: 20, Hello: 2, Delay: 15}, {Age: 1, Max: 20, Hello: 2, Delay: 15}},
		{{}, {Age: 1}},
		{{Age: 19, Max: 20}, {Age: 20, Max: 20}}, {{Age: 20, Max: 20}, {Age: 21, Max: 20}}, {{Age: 255, Max: 255, Hello: 255, Delay: 255}, {Age: 256, Max: 255, Hello: 255, Delay: 255}},
		{{Age: -1, Max: -2, Hello: -3, Delay: -4}, {Age: 0, Max: -2, Hello: -3, Delay: -4}},
		{{Age: 1 << 31, Max: 1 << 31, Hello: 1 << 31, Delay: 1 << 31}, {Age: 1<<31 + 1, Max: 1 << 31, Hello: 1 << 31, Delay: 1 << 31}},
		{{Age: -1 << 31}, {Age: -1<<31 + 1}},
	} {
		p := received(0x8002, 20, v)
		p.PortTimes = c[0]
		// The times of other ports, and those of messages, don't count.
		mustUpdate(t, bridgeOf(portOf(0x8001, api.Mine, v), p), withCost(v, 120), 0x8002, c[1], got{api.Designated, on}, got{api.Root, off})
	}
}

func TestRootTimesOfNone(t *testing.T) {
	for _, own := range []api.Times{ownTimes, {}, {Age: 5, Max: 6, Hello: 1, Delay: 4}, {Age: -1 << 31, Max: 1 << 31, Hello: -1, Delay: 1 << 31}} {
		b := bridgeOf(portOf(0x8001, api.Mine, ownVector), received(0x8002, 20, api.Vector{Root: most, Bridge: most}), portOf(0x8003, api.Aged, ownVector))
		b.Times = own
		mustHaveNoRoot(t, b, got{api.Designated, on}, got{api.Designated, on}, got{api.Designated, on})
	}
}

// P9.2: DesignatedVector, DesignatedTimes

// Whatever a port's InfoIs is, it knows what it would tell; and for one that is none of the four, nothing else is set.
func TestDesignatedOfEveryInfo(t *testing.T) {
	v := api.Vector{Root: least, Cost: 100, Bridge: less, Port: 0x8003}
	for _, from := range []api.Info{-1 << 63, -1, 4, 5, 255, 256, 1 << 32, 1<<32 + 3, math.MaxInt} {
		p := portOf(0x8002, from, v)
		for _, role := range []api.Role{-1, api.Disabled, api.Root, api.Designated, api.Alternate, api.Backup, 9} {
			p.SelectedRole = role
			mustHaveNoRoot(t, bridgeOf(p), got{role, stays})
			mustUpdate(t, bridgeOf(p, received(0x8001, 20, withCost(v, 900)), p), withCost(v, 920), 0x8001, api.Times{Age: 4, Max: 18, Hello: 1, Delay: 14},
				got{role, stays}, got{api.Root, off}, got{role, stays})
		}
	}
}

func TestDesignatedWrittenOut(t *testing.T) {
	v := api.Vector{Root: least, Cost: 100, Bridge: less, Port: 0x8003}
	b := bridgeOf(received(0x8001, 20, v), portOf(0x7002, api.Mine, v), portOf(0xf003, api.InfoDisabled, v), portOf(0, api.Aged, v))
	choose.Update(&b)
	for i, id := range []api.PortID{0x8001, 0x7002, 0xf003, 0} {
		if d := b.Ports[i].DesignatedVector; d != (api.Vector{Root: least, Cost: 120, Bridge: self, Port: id}) {
			t.Errorf("port %d tells %x", i, d)
		}
		// Hello is the bridge's own; the others are the root's.
		if d := b.Ports[i].DesignatedTimes; d != (api.Times{Age: 4, Max: 18, Hello: 2, Delay: 14}) {
			t.Errorf("port %d tells %v", i, d)
		}
	}
	if b.RootTimes.Hello != 1 {
		t.Errorf("RootTimes is %v: its Hello is the root port's", b.RootTimes)
	}
}

func TestDesignatedHelloIsTheBridgesOwn(t *testing.T) {
	v := api.Vector{Root: least, Cost: 100, Bridge: less, Port: 0x8003}
	for _, hellos := range [][2]int{{1, 2}, {2, 1}, {2, 2}, {0, 10}, {10, 0}, {-1, 1 << 31}, {1 << 31, -1}} {
		p := received(0x8001, 20, v)
		p.PortTimes.Hello = hellos[1]
		b := bridgeOf(p, portOf(0x8002, api.Mine, v))
		b.Times = api.Times{Age: 9, Max: 40, Hello: hellos[0], Delay: 30}
		mustUpdate(t, b, withCost(v, 120), 0x8001, api.Times{Age: 4, Max: 18, Hello: hellos[1], Delay: 14}, got{api.Root, off}, got{api.Designated, on})
	}
}

// P9.2: SelectedRole, UpdtInfo

func TestRoleOfDisabledAndAged(t *testing.T) {
	v := api.Vector{Root: least, Cost: 100, Bridge: less, Port: 0x8003}
	root := received(0x8009, 20, v)
	for _, own := range []api.Vector{{}, v, ownVector, {Root: self, Bridge: self, Port: 0x8001}, {Root: most, Bridge: most}, {Root: least, Cost: 120, Bridge: self, Port: 0x8001}} {
		disabled, aged := portOf(0x8001, api.InfoDisabled, own), portOf(0x8001, api.Aged, own)
		// Even what it would tell itself counts for nothing here.
		aged.PortTimes = api.Times{Age: 4, Max: 18, Hello: 2, Delay: 14}
		mustHaveNoRoot(t, bridgeOf(disabled), got{api.Disabled, stays})
		mustHaveNoRoot(t, bridgeOf(aged), got{api.Designated, on})
		mustUpdate(t, bridgeOf(disabled, aged, root, aged, disabled), withCost(v, 120), 0x8009, api.Times{Age: 4, Max: 18, Hello: 1, Delay: 14},
			got{api.Disabled, stays}, got{api.Designated, on}, got{api.Root, off}, got{api.Designated, on}, got{api.Disabled, stays})
	}
}

// differing returns a vector together with those that differ from it in one field.
func differing(v api.Vector) []api.Vector {
	l := slices.Repeat([]api.Vector{v}, 11)
	l[1].Root--
	l[2].Root++
	l[3].Cost--
	l[4].Cost++
	l[5].Bridge--
	l[6].Bridge++
	l[7].Port--
	l[8].Port++
	// Another priority makes another vector, even if it is from the same source.
	l[9].Bridge ^= 1 << 60
	l[10].Port ^= 1 << 12
	return l
}

// differingTimes returns times together with those that differ from them in one field.
func differingTimes(t api.Times) []api.Times {
	l := slices.Repeat([]api.Times{t}, 9)
	l[1].Age--
	l[2].Age++
	l[3].Max--
	l[4].Max++
	l[5].Hello--
	l[6].Hello++
	l[7].Delay--
	l[8].Delay++
	return l
}

// The first one of each list is as it is told: only with both does UpdtInfo stay.
func TestRoleOfMineBehindRoot(t *testing.T) {
	v := api.Vector{Root: least, Cost: 100, Bridge: less, Port: 0x8003}
	root := received(0x8009, 20, v)
	told := api.Vector{Root: least, Cost: 120, Bridge: self, Port: 0x8001}
	toldTimes := api.Times{Age: 4, Max: 18, Hello: 2, Delay: 14}
	for i, own := range differing(told) {
		for j, at := range differingTimes(toldTimes) {
			p := portOf(0x8001, api.Mine, own)
			p.PortTimes = at
			get := got{api.Designated, on}
			if i == 0 && j == 0 {
				get.updt = stays
			}
			mustUpdate(t, bridgeOf(p, root), withCost(v, 120), 0x8009, api.Times{Age: 4, Max: 18, Hello: 1, Delay: 14}, get, got{api.Root, off})
		}
	}
	// With the Hello of the root port it isn't as it is told.
	p := portOf(0x8001, api.Mine, told)
	p.PortTimes = api.Times{Age: 4, Max: 18, Hello: 1, Delay: 14}
	mustUpdate(t, bridgeOf(p, root), withCost(v, 120), 0x8009, p.PortTimes, got{api.Designated, on}, got{api.Root, off})
}

func TestRoleOfMineOnTheRoot(t *testing.T) {
	told := api.Vector{Root: self, Bridge: self, Port: 0x8001}
	for i, own := range append(differing(withCost(told, 1)), told) {
		for j, at := range differingTimes(ownTimes) {
			p := portOf(0x8001, api.Mine, own)
			p.PortTimes = at
			get := got{api.Designated, on}
			// Of those with the Cost 1, the one whose Cost is one less is as it is told, too.
			if (i == 3 || i == 11) && j == 0 {
				get.updt = stays
			}
			mustHaveNoRoot(t, bridgeOf(p), get)
		}
	}
}

// Two ports that are Mine don't mind each other: the one differs from what it tells, the other one doesn't.
func TestRoleOfEachMineByItself(t *testing.T) {
	as, not := portOf(0x8001, api.Mine, api.Vector{Root: self, Bridge: self, Port: 0x8001}), portOf(0x8002, api.Mine, api.Vector{Root: self, Bridge: self, Port: 0x8001})
	as.PortTimes, not.PortTimes = ownTimes, ownTimes
	mustHaveNoRoot(t, bridgeOf(as, not, as), got{api.Designated, stays}, got{api.Designated, on}, got{api.Designated, stays})
	mustHaveNoRoot(t, bridgeOf(not, as, not), got{api.Designated, on}, got{api.Designated, stays}, got{api.Designated, on})
}

func TestRoleOfReceived(t *testing.T) {
	v := api.Vector{Root: least, Cost: 100, Bridge: less, Port: 0x8003}
	root := received(0x8009, 20, v)
	// At the port 0x8002 the bridge tells this.
	told := api.Vector{Root: least, Cost: 120, Bridge: self, Port: 0x8002}
	renamed := withBridge(told, 0x7000_0200_0000_0005)
	port := func(v api.Vector, p api.PortID) api.Vector { v.Port = p; return v }
	for _, c := range []struct {
		v    api.Vector
		role api.Role
	}{
		// what is told is better
		{api.Vector{Root: less, Bridge: less}, api.Designated}, {api.Vector{Root: least + 1}, api.Designated}, {withCost(told, 121), api.Designated},
		{api.Vector{Root: least, Cost: 121, Bridge: less, Port: 1}, api.Designated}, {withBridge(told, self+1), api.Designated}, {withBridge(told, most), api.Designated},
		// also where it is the bridge's own
		{port(told, 0x8003), api.Designated}, {port(told, 0x9001), api.Designated}, {withBridge(told, 0x9000_0200_0000_0005), api.Designated},
		{api.Vector{Root: most, Bridge: self}, api.Designated}, {withCost(renamed, 121), api.Designated},
		// it isn't better, and the vector is the bridge's own: equal, or less
		{told, api.Backup}, {port(told, 0x8001), api.Backup}, {port(told, 0x7003), api.Backup}, {port(told, 0), api.Backup}, {withCost(told, 119), api.Backup},
		{withCost(told, 0), api.Backup}, {api.Vector{Bridge: self}, api.Backup}, {api.Vector{Root: least - 1, Cost: 999, Bridge: self, Port: 0xffff}, api.Backup},
		{renamed, api.Backup}, {port(renamed, 0xffff), api.Backup}, {withBridge(told, 0x0200_0000_0005), api.Backup}, {withCost(withBridge(told, 0xf000_0200_0000_0005), 119), api.Backup},
		{withBridge(told, 0x7fff_0200_0000_0005), api.Backup},
		// neither
		{withBridge(told, self-1), api.Alternate}, {withBridge(told, less), api.Alternate}, {withCost(withBridge(told, most), 119), api.Alternate},
		{v, api.Alternate}, {api.Vector{Root: least, Cost: 101, Bridge: most, Port: 1}, api.Alternate}, {withBridge(told, 0x7000_0200_0000_0006), api.Alternate},
	} {
		p := received(0x8002, 9999, c.v)
		updt := off
		if c.role == api.Designated {
			updt = on
		}
		mustUpdate(t, bridgeOf(p, root), withCost(v, 120), 0x8009, api.Times{Age: 4, Max: 18, Hello: 1, Delay: 14}, got{c.role, updt}, got{api.Root, off})
		mustUpdate(t, bridgeOf(root, p), withCost(v, 120), 0x8009, api.Times{Age: 4, Max: 18, Hello: 1, Delay: 14}, got{api.Root, off}, got{c.role, updt})
	}
}

// What a port tells is held against its vector as it was received, without the Cost.
func TestRoleOfReceivedWithoutTheCost(t *testing.T) {
	v := api.Vector{Root: least, Cost: 100, Bridge: less, Port: 0x8003}
	for _, c := range []struct {
		cost uint32
		get  got
	}{{119, got{api.Alternate, off}}, {120, got{api.Alternate, off}}, {121, got{api.Designated, on}}} {
		for _, own := range []uint32{20, 500, mostCost} {
			p := received(0x8002, own, api.Vector{Root: least, Cost: c.cost, Bridge: less, Port: 0x8003})
			mustUpdate(t, bridgeOf(received(0x8001, 20, v), p), withCost(v, 120), 0x8001, api.Times{Age: 4, Max: 18, Hello: 1, Delay: 14}, got{api.Root, off}, c.get)
		}
	}
}

// On the root itself, too, a port may be a backup of another one of its ports.
func TestRoleOfReceivedOnTheRoot(t *testing.T) {
	own := func(p api.PortID) api.Vector { return api.Vector{Root: self, Bridge: self, Port: p} }
	mustHaveNoRoot(t, bridgeOf(received(0x8001, 20, own(0x8002)), received(0x8002, 20, own(0x8001)), received(0x8003, 20, own(0x8003)), received(0x8004, 0, ownVector)),
		got{api.Designated, on}, got{api.Backup, off}, got{api.Backup, off}, got{api.Backup, off})
	// Worse than Own behind its Cost, but not worse than what is told: it is no root port, and is not designated.
	mustHaveNoRoot(t, bridgeOf(received(0x8001, 20, api.Vector{Root: self, Bridge: least, Port: 1})), got{api.Alternate, off})
	mustHaveNoRoot(t, bridgeOf(received(0x8001, 0, api.Vector{Root: least, Bridge: 0x1000_0200_0000_0005, Port: 1})), got{api.Backup, off})
}

// The root port is Root even where what it would tell is better than its vector.
func TestRoleOfRootPortThatTellsBetter(t *testing.T) {
	v := api.Vector{Root: least, Cost: 100, Bridge: most, Port: 0x8003}
	mustUpdate(t, bridgeOf(received(0x8001, 0, v)), v, 0x8001, api.Times{Age: 4, Max: 18, Hello: 1, Delay: 14}, got{api.Root, off})
	full := withCost(v, mostCost)
	mustUpdate(t, bridgeOf(received(0x8001, 20, full)), full, 0x8001, api.Times{Age: 4, Max: 18, Hello: 1, Delay: 14}, got{api.Root, off})
}

// P9.1 and P9.2 together

// layout returns a vector's fields as bytes, one behind the other, so that the order of the bytes is that of the vectors.
func layout(v api.Vector) []byte {
	out := binary.BigEndian.AppendUint64(nil, uint64(v.Root))
	out = binary.BigEndian.AppendUint32(out, v.Cost)
	out = binary.BigEndian.AppendUint64(out, uint64(v.Bridge))
	return binary.BigEndian.AppendUint16(out, uint16(v.Port))
}

// reference returns the bridge that Update has to leave, by other means than the program's: it sorts the candidates' bytes.
func reference(b api.Bridge) api.Bridge {
	type candidate struct {
		key   []byte
		index int
	}
	own := func(v api.Vector) bool { return uint64(v.Bridge)<<16 == uint64(b.ID)<<16 }
	var l []candidate
	for i, p := range b.Ports {
		if p.InfoIs == api.Received && !own(p.Vector) {
			key := binary.BigEndian.AppendUint16(layout(withCost(p.Vector, sum(p.Vector.Cost, p.Cost))), uint16(p.ID))
			l = append(l, candidate{key, i})
		}
	}
	slices.SortStableFunc(l, func(x, y candidate) int { return bytes.Compare(x.key, y.key) })
	at, root, id, old := -1, api.Vector{Root: b.ID, Bridge: b.ID}, api.PortID(0), b.Times
	if len(l) > 0 && bytes.Compare(l[0].key[:22], layout(root)) < 0 {
		at = l[0].index
		p := b.Ports[at]
		root, id, old = withCost(p.Vector, sum(p.Vector.Cost, p.Cost)), p.ID, p.PortTimes
		old.Age++
	}
	gets := make([]got, len(b.Ports))
	for i, p := range b.Ports {
		told := api.Vector{Root: root.Root, Cost: root.Cost, Bridge: b.ID, Port: p.ID}
		toldTimes := api.Times{Age: old.Age, Max: old.Max, Hello: b.Times.Hello, Delay: old.Delay}
		order := bytes.Compare(layout(told), layout(p.Vector))
		switch {
		case p.InfoIs == api.InfoDisabled:
			gets[i] = got{api.Disabled, stays}
		case p.InfoIs == api.Aged, p.InfoIs == api.Mine && (order != 0 || p.PortTimes != toldTimes):
			gets[i] = got{api.Designated, on}
		case p.InfoIs == api.Mine:
			gets[i] = got{api.Designated, stays}
		case p.InfoIs != api.Received:
			gets[i] = got{p.SelectedRole, stays}
		case i == at:
			gets[i] = got{api.Root, off}
		case order < 0:
			gets[i] = got{api.Designated, on}
		case own(p.Vector):
			gets[i] = got{api.Backup, off}
		default:
			gets[i] = got{api.Alternate, off}
		}
	}
	return wanted(b, root, id, old, gets)
}

// samples returns ports of every kind, among which ones that are equal in what decides.
func samples() []api.Port {
	near := api.Vector{Root: least, Cost: 50, Bridge: less, Port: 0x8001}
	l := []api.Port{
		received(0x8001, 100, near), received(0x8002, 50, withCost(near, 100)), received(0x8002, 100, near), received(0x8003, mostCost, near),
		received(0x8004, 20, api.Vector{Root: least, Cost: 150, Bridge: self, Port: 0x8002}), received(0x8001, 20, api.Vector{Root: least, Cost: 150, Bridge: self, Port: 0x8004}),
		received(0x8005, 20, withBridge(near, 0x1000_0200_0000_0005)), received(0x8006, 0, api.Vector{Root: self, Bridge: less}), received(0x8006, 1, api.Vector{Root: self, Bridge: less}),
		received(0x8007, 20, api.Vector{Root: most, Bridge: most, Port: 0x8001}), received(0, 0, ownVector),
		portOf(0x8001, api.Mine, api.Vector{Root: self, Bridge: self, Port: 0x8001}), portOf(0x8002, api.Mine, api.Vector{Root: least, Cost: 150, Bridge: self, Port: 0x8002}),
		portOf(0x8003, api.Aged, near), portOf(0x8004, api.InfoDisabled, near), portOf(0x8005, 4, near),
	}
	l[11].PortTimes = ownTimes
	l[12].PortTimes = api.Times{Age: 4, Max: 18, Hello: 2, Delay: 14}
	l[1].PortTimes.Age = 6
	for i := range l {
		l[i].UpdtInfo = i%3 == 0
	}
	return l
}

func TestUpdateOfAllTriples(t *testing.T) {
	l := samples()
	for _, id := range []api.BridgeID{self, 0x1000_0200_0000_0005, least, most, 0, math.MaxUint64} {
		for _, x := range l {
			for _, y := range l {
				for _, z := range l {
					b := bridgeOf(x, y, z)
					b.ID = id
					want := reference(b)
					choose.Update(&b)
					mustBe(t, b, want)
				}
			}
		}
		if t.Failed() {
			return
		}
	}
}

// As many ports as a bridge may have, and more, beginning anywhere among the samples.
func TestUpdateOfManyPorts(t *testing.T) {
	for _, n := range []int{1, 2, api.MaxPorts, api.MaxPorts + 1, 40, 300} {
		for first := range samples() {
			l := slices.Repeat(samples(), 20)[first : first+n]
			b := bridgeOf(slices.Clone(l)...)
			want := reference(b)
			choose.Update(&b)
			mustBe(t, b, want)
		}
	}
}

// Ports beyond the length of the slice are none of the bridge's; those within it are changed where they are.
func TestUpdateWithinTheLength(t *testing.T) {
	v := api.Vector{Root: least, Cost: 100, Bridge: less, Port: 0x8003}
	all := []api.Port{portOf(0x8001, api.Mine, v), received(0x8002, 20, v), received(0x8003, 20, api.Vector{}), portOf(0x8004, api.Mine, v)}
	before := slices.Clone(all)
	b := bridgeOf(all[:2]...)
	b.Ports = all[:2]
	want := reference(b)
	choose.Update(&b)
	mustBe(t, b, want)
	if &b.Ports[0] != &all[0] || all[1].SelectedRole != api.Root {
		t.Error("the ports aren't those that were passed")
	}
	if all[2] != before[2] || all[3] != before[3] {
		t.Error("a port beyond the length has changed")
	}
	b.Ports = all[2:2:4]
	mustHaveNoRoot(t, b)
}

// What Update sets hangs neither on what it was before nor on other bridges.
func TestUpdateWhateverWasBefore(t *testing.T) {
	l := samples()
	for i, x := range l {
		b, other := bridgeOf(x, l[(i+5)%len(l)]), bridgeOf(x, l[(i+5)%len(l)])
		other.Root, other.RootPort, other.RootTimes, other.Prs = api.Vector{}, 0x8001, api.Times{}, 1
		for j := range other.Ports {
			p := &other.Ports[j]
			p.DesignatedVector, p.DesignatedTimes = p.Vector, p.PortTimes
			p.MsgVector, p.MsgTimes, p.RcvdInfo, p.Role, p.Selected, p.Reselect = api.Vector{}, api.Times{}, api.Superior, api.Disabled, false, false
		}
		want, wantOther := reference(b), reference(other)
		choose.Update(&b)
		choose.Update(&other)
		mustBe(t, b, want)
		mustBe(t, other, wantOther)
		if b.Root != other.Root || b.RootPort != other.RootPort || b.RootTimes != other.RootTimes {
			t.Errorf("%x and %x", b.Root, other.Root)
		}
	}
}
