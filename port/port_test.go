package port_test

import (
	"math"
	"reflect"
	"slices"
	"testing"

	"catenary/api"
	"catenary/port"
)

// The ends of the seconds, and of the counts, that a bridge or a port may have.
const (
	least = -1 << 31
	most  = 1 << 31
)

// fill sets all that a value is made of to numbers from n on, and to true; it leaves slices as they are.
func fill(v reflect.Value, n int) int {
	switch v.Kind() {
	case reflect.Struct:
		for i := range v.NumField() {
			n = fill(v.Field(i), n)
		}
		return n
	case reflect.Slice:
		return n
	case reflect.Bool:
		v.SetBool(true)
	case reflect.Int:
		v.SetInt(int64(n))
	default:
		v.SetUint(uint64(n))
	}
	return n + 1
}

// filledPort returns a port in which no field is zero, and no two numbers are equal.
func filledPort() api.Port {
	var p api.Port
	fill(reflect.ValueOf(&p).Elem(), 40)
	return p
}

// bridgeOf returns a bridge with these ports, in which nothing else is zero.
func bridgeOf(ports ...api.Port) api.Bridge {
	var b api.Bridge
	fill(reflect.ValueOf(&b).Elem(), 200)
	b.Ports = ports
	return b
}

// bridgesOf returns bridges with that many ports: empty ones, filled ones, and by turns.
func bridgesOf(n int) []api.Bridge {
	mixed := slices.Repeat([]api.Port{{}, filledPort()}, n+1)
	return []api.Bridge{
		bridgeOf(make([]api.Port, n)...),
		bridgeOf(slices.Repeat([]api.Port{filledPort()}, n)...),
		bridgeOf(slices.Clone(mixed[:n])...),
		bridgeOf(slices.Clone(mixed[1 : n+1])...),
	}
}

// copied returns a bridge that shares nothing with b.
func copied(b api.Bridge) api.Bridge {
	b.Ports = slices.Clone(b.Ports)
	return b
}

func mustBe(t *testing.T, what string, got, want api.Bridge) {
	t.Helper()
	for i := range got.Ports {
		if got.Ports[i] != want.Ports[i] {
			t.Errorf("%s: port %d is %+v, not %+v", what, i, got.Ports[i], want.Ports[i])
		}
	}
	if !reflect.DeepEqual(got, want) {
		t.Errorf("%s: %+v, not %+v", what, got, want)
	}
}

// mustChange calls f, and holds that each port becomes what want makes of it, and that nothing else changes.
func mustChange(t *testing.T, what string, b api.Bridge, f func(b *api.Bridge), want func(i int, p *api.Port)) {
	t.Helper()
	after := copied(b)
	for i := range after.Ports {
		want(i, &after.Ports[i])
	}
	f(&b)
	mustBe(t, what, b, after)
}

// mustChangePort is mustChange for one port.
func mustChangePort(t *testing.T, what string, p api.Port, f, want func(p *api.Port)) {
	t.Helper()
	after := p
	want(&after)
	f(&p)
	if p != after {
		t.Errorf("%s: %+v, not %+v", what, p, after)
	}
}

// mustReturn asks for a number of a port twice, and holds that the port isn't changed by that.
func mustReturn(t *testing.T, what string, f func(p *api.Port) int, p api.Port, want int) {
	t.Helper()
	before := p
	for range 2 {
		if n := f(&p); n != want {
			t.Errorf("%s of %+v is %d, not %d", what, p, n, want)
		}
	}
	if p != before {
		t.Errorf("%s changes the port to %+v", what, p)
	}
}

// mustTell asks twice whether something is so of a bridge, and holds that the bridge isn't changed by that.
func mustTell(t *testing.T, what string, f func(b *api.Bridge) bool, b api.Bridge, want bool) {
	t.Helper()
	before := copied(b)
	for range 2 {
		if got := f(&b); got != want {
			t.Errorf("%s of %+v is %v", what, b.Ports, got)
		}
	}
	mustBe(t, what, b, before)
}

// indexes returns those of n ports, and some of none.
func indexes(n int) []int {
	l := []int{-1, -2, n + 1, math.MinInt, math.MaxInt, least, most}
	for i := range n + 1 {
		l = append(l, i)
	}
	return l
}

// P13.1: Of

func TestOf(t *testing.T) {
	for n := range api.MaxPorts + 1 {
		// One more port lies behind the slice's length.
		ports := slices.Repeat([]api.Port{filledPort()}, n+1)
		b := bridgeOf(ports[:n]...)
		before := copied(b)
		for _, i := range indexes(n) {
			p := port.Of(&b, i)
			if i < 0 || i >= n {
				if p != nil {
					t.Errorf("%d ports: Of %d returns a port", n, i)
				}
			} else if p != &b.Ports[i] {
				t.Errorf("%d ports: Of %d returns another port", n, i)
			}
		}
		mustBe(t, "Of", b, before)
	}
}

func TestOfNoBridge(t *testing.T) {
	for _, i := range indexes(api.MaxPorts) {
		if port.Of(nil, i) != nil {
			t.Errorf("Of %d of no bridge returns a port", i)
		}
	}
}

func TestOfBridgeWithoutPorts(t *testing.T) {
	for _, b := range []api.Bridge{{}, {Ports: []api.Port{}}, bridgeOf(make([]api.Port, 0, 5)...)} {
		for _, i := range indexes(0) {
			if port.Of(&b, i) != nil {
				t.Errorf("Of %d of a bridge without ports returns a port", i)
			}
		}
	}
}

// What is set in the port is set in the bridge.
func TestOfIsTheBridgesOwnPort(t *testing.T) {
	b := bridgeOf(make([]api.Port, 3)...)
	port.Of(&b, 0).Cost = 5
	port.Of(&b, 2).Cost = 7
	b.Ports[1].Cost = 6
	if b.Ports[0].Cost != 5 || b.Ports[2].Cost != 7 || port.Of(&b, 1).Cost != 6 {
		t.Errorf("%+v", b.Ports)
	}
}

// P13.1: Tick

// counted is what Tick decreases.
var counted = []struct {
	name string
	of   func(p *api.Port) *int
}{
	{"EdgeDelayWhile", func(p *api.Port) *int { return &p.EdgeDelayWhile }},
	{"FdWhile", func(p *api.Port) *int { return &p.FdWhile }},
	{"HelloWhen", func(p *api.Port) *int { return &p.HelloWhen }},
	{"MdelayWhile", func(p *api.Port) *int { return &p.MdelayWhile }},
	{"RbWhile", func(p *api.Port) *int { return &p.RbWhile }},
	{"RcvdInfoWhile", func(p *api.Port) *int { return &p.RcvdInfoWhile }},
	{"RrWhile", func(p *api.Port) *int { return &p.RrWhile }},
	{"TcWhile", func(p *api.Port) *int { return &p.TcWhile }},
	{"TxCount", func(p *api.Port) *int { return &p.TxCount }},
}

// ticked is what a second makes of a number, written out.
var ticked = map[int]int{
	least: least, -15: -15, -2: -2, -1: -1, 0: 0,
	1: 0, 2: 1, 3: 2, 15: 14, 35: 34, 65536: 65535, most - 1: most - 2, most: most - 1,
}

// ticking returns what a second makes of a port.
func ticking(_ int, p *api.Port) {
	for _, c := range counted {
		*c.of(p) = ticked[*c.of(p)]
	}
}

// setAll sets all that Tick decreases.
func setAll(p *api.Port, n int) {
	for _, c := range counted {
		*c.of(p) = n
	}
}

func TestTickOfNoBridge(t *testing.T) {
	port.Tick(nil)
}

func TestTickOfBridgeWithoutPorts(t *testing.T) {
	none := func(int, *api.Port) {}
	mustChange(t, "Tick", api.Bridge{}, port.Tick, none)
	mustChange(t, "Tick", bridgeOf(), port.Tick, none)
	mustChange(t, "Tick", bridgeOf([]api.Port{}...), port.Tick, none)
}

// Each of them alone, at each port, among others that stay as they are because they aren't greater than 0.
func TestTickOfEachAlone(t *testing.T) {
	for _, n := range []int{1, api.MaxPorts} {
		for at := range n {
			for _, c := range counted {
				for before := range ticked {
					for _, rest := range []int{0, -1} {
						b := bridgeOf(slices.Repeat([]api.Port{filledPort()}, n)...)
						for i := range b.Ports {
							setAll(&b.Ports[i], rest)
						}
						*c.of(&b.Ports[at]) = before
						mustChange(t, c.name, b, port.Tick, ticking)
					}
				}
			}
		}
	}
}

// All of them together, with the same number, in ports that are empty otherwise, or filled.
func TestTickOfAllTogether(t *testing.T) {
	for _, n := range []int{1, 2, api.MaxPorts} {
		for before := range ticked {
			for _, b := range bridgesOf(n) {
				for i := range b.Ports {
					setAll(&b.Ports[i], before)
				}
				mustChange(t, "Tick", b, port.Tick, ticking)
			}
		}
	}
}

// Each of them with a number of its own, others in each port.
func TestTickOfDifferentNumbers(t *testing.T) {
	numbers := []int{3, 0, 1, -1, 2, 15, 35, most, least, -2, 65536}
	b := bridgeOf(slices.Repeat([]api.Port{filledPort()}, api.MaxPorts)...)
	for i := range b.Ports {
		for k, c := range counted {
			*c.of(&b.Ports[i]) = numbers[(i+k)%len(numbers)]
		}
	}
	mustChange(t, "Tick", b, port.Tick, ticking)
}

// Second after second, down to 0 and no further.
func TestTickUntilAllIsZero(t *testing.T) {
	b := bridgeOf(filledPort(), filledPort())
	for i := range b.Ports {
		setAll(&b.Ports[i], 3)
	}
	for _, want := range []int{2, 1, 0, 0, 0} {
		mustChange(t, "Tick", b, port.Tick, func(_ int, p *api.Port) { setAll(p, want) })
	}
}

func TestTickLeavesWhatLiesBehind(t *testing.T) {
	ports := []api.Port{filledPort(), filledPort()}
	b := bridgeOf(ports[:1]...)
	port.Tick(&b)
	if ports[1] != filledPort() {
		t.Errorf("%+v", ports[1])
	}
}

// P13.1: Hello, Delay, Edge

// withTimes returns a port whose times are all different; those that count are the designated ones.
func withTimes(t api.Times, sendsRSTP, pointToPoint bool) api.Port {
	p := filledPort()
	p.DesignatedTimes, p.SendRSTP, p.PointToPoint = t, sendsRSTP, pointToPoint
	return p
}

func TestHelloDelayEdge(t *testing.T) {
	for _, x := range []api.Times{
		{Age: 1, Max: 20, Hello: 2, Delay: 15}, {Age: 5, Max: 6, Hello: 1, Delay: 4}, {Age: 7, Max: 40, Hello: 9, Delay: 30},
		{}, {Age: 3, Max: -2, Hello: -4, Delay: -6}, {Age: 11, Max: most, Hello: most - 1, Delay: most - 2}, {Age: 12, Max: least, Hello: least + 1, Delay: least + 2},
	} {
		for _, two := range []bool{false, true} {
			for _, rstp := range []bool{false, true} {
				mustReturn(t, "Hello", port.Hello, withTimes(x, rstp, two), x.Hello)
			}
			mustReturn(t, "Delay", port.Delay, withTimes(x, true, two), x.Hello)
			mustReturn(t, "Delay", port.Delay, withTimes(x, false, two), x.Delay)
			mustReturn(t, "Edge", port.Edge, withTimes(x, two, true), 3)
			mustReturn(t, "Edge", port.Edge, withTimes(x, two, false), x.Max)
		}
	}
}

// Nothing but the designated times, and the one of the two that counts, is set.
func TestHelloDelayEdgeOfPortsThatAreEmptyOtherwise(t *testing.T) {
	x := api.Times{Age: 1, Max: 20, Hello: 2, Delay: 15}
	mustReturn(t, "Hello", port.Hello, api.Port{DesignatedTimes: x}, 2)
	mustReturn(t, "Delay", port.Delay, api.Port{DesignatedTimes: x}, 15)
	mustReturn(t, "Delay", port.Delay, api.Port{DesignatedTimes: x, PointToPoint: true}, 15)
	mustReturn(t, "Delay", port.Delay, api.Port{DesignatedTimes: x, SendRSTP: true}, 2)
	mustReturn(t, "Edge", port.Edge, api.Port{DesignatedTimes: x}, 20)
	mustReturn(t, "Edge", port.Edge, api.Port{DesignatedTimes: x, SendRSTP: true}, 20)
	mustReturn(t, "Edge", port.Edge, api.Port{DesignatedTimes: x, PointToPoint: true}, 3)
	mustReturn(t, "Edge", port.Edge, api.Port{PointToPoint: true}, 3)
	for _, f := range []func(p *api.Port) int{port.Hello, port.Delay, port.Edge} {
		mustReturn(t, "a time", f, api.Port{PortTimes: x, MsgTimes: x, SendRSTP: true}, 0)
		mustReturn(t, "a time", f, api.Port{PortTimes: x, MsgTimes: x}, 0)
	}
}

// P13.2: Synced

// inRole returns a port that has the role that was selected for it, and for which nothing else speaks.
func inRole(r api.Role, synced bool) api.Port {
	return api.Port{Selected: true, Role: r, SelectedRole: r, Synced: synced}
}

// inRoleFilled is the same of a port in which all that doesn't count is something else.
func inRoleFilled(r api.Role, synced bool) api.Port {
	p := filledPort()
	p.Selected, p.UpdtInfo, p.Role, p.SelectedRole, p.Synced = true, false, r, r, synced
	return p
}

// roles are the five, and two that aren't any.
var roles = []api.Role{api.Disabled, api.Root, api.Designated, api.Alternate, api.Backup, -1, 5}

func TestSyncedOfBridgeWithoutPorts(t *testing.T) {
	mustTell(t, "Synced", port.Synced, api.Bridge{}, true)
	mustTell(t, "Synced", port.Synced, bridgeOf(), true)
	mustTell(t, "Synced", port.Synced, bridgeOf([]api.Port{}...), true)
}

func TestSyncedOfOnePort(t *testing.T) {
	for _, r := range roles {
		for _, p := range []api.Port{inRole(r, true), inRoleFilled(r, true)} {
			mustTell(t, "Synced", port.Synced, bridgeOf(p), true)
		}
		for _, p := range []api.Port{inRole(r, false), inRoleFilled(r, false)} {
			mustTell(t, "Synced", port.Synced, bridgeOf(p), r == api.Root)
		}
	}
}

// spoilt are ways to make one of the conditions fail, each of them alone.
var spoilt = []struct {
	name string
	by   func(p *api.Port)
}{
	{"not Selected", func(p *api.Port) { p.Selected = false }},
	{"UpdtInfo", func(p *api.Port) { p.UpdtInfo = true }},
	{"another Role", func(p *api.Port) { p.Role++ }},
	{"another SelectedRole", func(p *api.Port) { p.SelectedRole++ }},
	{"a SelectedRole below", func(p *api.Port) { p.SelectedRole-- }},
	{"neither Root nor Synced", func(p *api.Port) { p.Role, p.SelectedRole, p.Synced = api.Designated, api.Designated, false }},
}

// One condition fails, for a port that is the root port, or Synced, or both, at each place.
func TestSyncedWhereOneConditionFails(t *testing.T) {
	for _, n := range []int{1, 2, 3, api.MaxPorts} {
		for at := range n {
			for _, good := range []api.Port{
				inRole(api.Root, false), inRole(api.Root, true), inRole(api.Designated, true), inRole(api.Alternate, true),
				inRole(api.Backup, true), inRole(api.Disabled, true), inRoleFilled(api.Root, false), inRoleFilled(api.Designated, true),
			} {
				b := bridgeOf(slices.Repeat([]api.Port{inRole(api.Designated, true)}, n)...)
				b.Ports[at] = good
				mustTell(t, "Synced", port.Synced, b, true)
				for _, s := range spoilt {
					b.Ports[at] = good
					s.by(&b.Ports[at])
					mustTell(t, "Synced where one is "+s.name, port.Synced, b, false)
				}
			}
		}
	}
}

// A port that is to become the root port, or is it no more, isn't in its role, whether it is Synced or not.
func TestSyncedWhereTheRootPortIsAnother(t *testing.T) {
	for _, synced := range []bool{false, true} {
		p := inRole(api.Root, synced)
		p.SelectedRole = api.Designated
		mustTell(t, "Synced", port.Synced, bridgeOf(p, inRole(api.Root, false)), false)
		p = inRole(api.Alternate, synced)
		p.SelectedRole = api.Root
		mustTell(t, "Synced", port.Synced, bridgeOf(inRole(api.Designated, true), p), false)
	}
	// Each port counts for itself, also where two are root ports.
	mustTell(t, "Synced", port.Synced, bridgeOf(inRole(api.Root, false), inRole(api.Root, false)), true)
	mustTell(t, "Synced", port.Synced, bridgeOf(inRole(api.Root, false), inRole(api.Designated, false)), false)
	mustTell(t, "Synced", port.Synced, bridgeOf(inRole(api.Designated, false), inRole(api.Root, false)), false)
}

// eachPort calls f for all that Synced looks at in one port.
func eachPort(f func(p api.Port)) {
	for bits := range 8 {
		for _, r := range roles {
			for _, selected := range roles {
				f(api.Port{
					Selected: bits&1 != 0, UpdtInfo: bits&2 != 0, Synced: bits&4 != 0, Role: r, SelectedRole: selected,
				})
			}
		}
	}
}

// asItShouldBe is what Synced asks of one port, as a count of what speaks for it.
func asItShouldBe(p api.Port) bool {
	n := 0
	if p.Selected {
		n++
	}
	if !p.UpdtInfo {
		n++
	}
	if p.Role == p.SelectedRole {
		n++
	}
	switch {
	case p.Role == api.Root:
		n++
	case p.Synced:
		n++
	}
	return n == 4
}

func TestSyncedOfAllPorts(t *testing.T) {
	good := inRole(api.Backup, true)
	eachPort(func(p api.Port) {
		want := asItShouldBe(p)
		mustTell(t, "Synced", port.Synced, bridgeOf(p), want)
		mustTell(t, "Synced", port.Synced, bridgeOf(p, good), want)
		mustTell(t, "Synced", port.Synced, bridgeOf(good, p), want)
		// A port that isn't as it should be isn't made good by the others.
		mustTell(t, "Synced", port.Synced, bridgeOf(good, p, api.Port{}, inRole(api.Root, true)), false)
	})
}

// P13.2: ReRooted

// mustReRoot asks for a bridge whose ports have these RrWhile; they are the only numbers of them, or some of many.
func mustReRoot(t *testing.T, i int, want bool, l ...int) {
	t.Helper()
	for _, p := range []api.Port{{}, filledPort()} {
		b := bridgeOf(slices.Repeat([]api.Port{p}, len(l))...)
		for k, n := range l {
			b.Ports[k].RrWhile = n
		}
		mustTell(t, "ReRooted", func(b *api.Bridge) bool { return port.ReRooted(b, i) }, b, want)
	}
}

func TestReRooted(t *testing.T) {
	for _, n := range []int{1, 2, 15, most, -1, least} {
		// of the port itself alone
		mustReRoot(t, 0, true, n)
		mustReRoot(t, 0, true, n, 0, 0)
		mustReRoot(t, 1, true, 0, n, 0)
		mustReRoot(t, 2, true, 0, 0, n)
		// of another one
		mustReRoot(t, 0, false, 0, n)
		mustReRoot(t, 1, false, n, 0)
		mustReRoot(t, 0, false, 0, n, 0)
		mustReRoot(t, 0, false, 0, 0, n)
		mustReRoot(t, 2, false, n, 0, 0)
		mustReRoot(t, 1, false, 0, 0, n)
		// of both
		mustReRoot(t, 0, false, n, n)
		mustReRoot(t, 1, false, n, n, 0)
		mustReRoot(t, 1, false, -n, 0, n)
	}
	mustReRoot(t, 1, true, 0, 0, 0)
	// They aren't summed up.
	mustReRoot(t, 0, false, 0, 1, -1)
}

func TestReRootedOfEachPlace(t *testing.T) {
	for n := range api.MaxPorts + 1 {
		for _, i := range indexes(n) {
			mustReRoot(t, i, true, make([]int, n)...)
			for at := range n {
				l := make([]int, n)
				l[at] = 1
				mustReRoot(t, i, at == i, l...)
			}
		}
	}
}

// For an i that is no port, all ports count.
func TestReRootedForNoPort(t *testing.T) {
	for _, i := range []int{-1, 3, 4, math.MinInt, math.MaxInt} {
		mustReRoot(t, i, true, 0, 0, 0)
		mustReRoot(t, i, false, 1, 0, 0)
		mustReRoot(t, i, false, 0, 1, 0)
		mustReRoot(t, i, false, 0, 0, 1)
		mustReRoot(t, i, true)
	}
}

// P13.2: Sync, ReRoot, Prop

func TestSyncAndReRoot(t *testing.T) {
	for n := range api.MaxPorts + 1 {
		for _, b := range bridgesOf(n) {
			mustChange(t, "Sync", copied(b), port.Sync, func(_ int, p *api.Port) { p.Sync = true })
			mustChange(t, "ReRoot", b, port.ReRoot, func(_ int, p *api.Port) { p.ReRoot = true })
		}
	}
}

// Whether it was set before, of this port or of another one, makes no difference.
func TestSyncAndReRootWhereOneWasSetBefore(t *testing.T) {
	for at := range 4 {
		for _, set := range []bool{false, true} {
			b := bridgeOf(slices.Repeat([]api.Port{{Sync: !set, ReRoot: !set}}, 4)...)
			b.Ports[at].Sync, b.Ports[at].ReRoot = set, set
			mustChange(t, "Sync", copied(b), port.Sync, func(_ int, p *api.Port) { p.Sync = true })
			mustChange(t, "ReRoot", b, port.ReRoot, func(_ int, p *api.Port) { p.ReRoot = true })
		}
	}
}

func TestProp(t *testing.T) {
	for n := range api.MaxPorts + 1 {
		for _, i := range indexes(n) {
			for _, b := range bridgesOf(n) {
				mustChange(t, "Prop", b, func(b *api.Bridge) { port.Prop(b, i) }, func(k int, p *api.Port) {
					if k != i {
						p.TcProp = true
					}
				})
			}
		}
	}
}

// The TcProp of the port itself stays, whether it was set or not.
func TestPropWhereOneWasSetBefore(t *testing.T) {
	for at := range 4 {
		for i := -1; i <= 4; i++ {
			for _, set := range []bool{false, true} {
				b := bridgeOf(slices.Repeat([]api.Port{{TcProp: !set}}, 4)...)
				b.Ports[at].TcProp = set
				mustChange(t, "Prop", b, func(b *api.Bridge) { port.Prop(b, i) }, func(k int, p *api.Port) {
					p.TcProp = p.TcProp || k != i
				})
			}
		}
	}
}

func TestAllPortsAreThoseOfTheSlice(t *testing.T) {
	ports := make([]api.Port, 3)
	b := bridgeOf(ports[:2]...)
	port.Sync(&b)
	port.ReRoot(&b)
	port.Prop(&b, 0)
	if ports[2] != (api.Port{}) {
		t.Errorf("a port behind the last one becomes %+v", ports[2])
	}
	// Nor is it looked at.
	ports[2].RrWhile = 5
	if !port.ReRooted(&b, 0) {
		t.Error("a port behind the last one counts in ReRooted")
	}
	ports[0], ports[1] = inRole(api.Root, true), inRole(api.Designated, true)
	if !port.Synced(&b) {
		t.Error("a port behind the last one counts in Synced")
	}
}

// P13.3: Changed

// telling returns a port with this TcWhile, whose times are all different.
func telling(while int, sendsRSTP, newInfo bool) api.Port {
	p := withTimes(api.Times{Age: 1, Max: 20, Hello: 2, Delay: 15}, sendsRSTP, false)
	p.TcWhile, p.NewInfo = while, newInfo
	return p
}

func TestChangedDoesNothingMeanwhile(t *testing.T) {
	for _, while := range []int{1, 2, 3, 34, 35, most, -1, -2, least} {
		for _, rstp := range []bool{false, true} {
			for _, news := range []bool{false, true} {
				mustChangePort(t, "Changed", telling(while, rstp, news), port.Changed, func(p *api.Port) {})
			}
		}
	}
}

func TestChanged(t *testing.T) {
	for _, news := range []bool{false, true} {
		for _, two := range []bool{false, true} {
			p := telling(0, true, news)
			p.PointToPoint = two
			mustChangePort(t, "Changed", p, port.Changed, func(p *api.Port) { p.TcWhile, p.NewInfo = 3, true })
			p = telling(0, false, news)
			p.PointToPoint = two
			mustChangePort(t, "Changed", p, port.Changed, func(p *api.Port) { p.TcWhile = 35 })
		}
	}
}

func TestChangedOfPortsThatAreEmptyOtherwise(t *testing.T) {
	x := api.Times{Age: 1, Max: 20, Hello: 2, Delay: 15}
	mustChangePort(t, "Changed", api.Port{DesignatedTimes: x}, port.Changed, func(p *api.Port) { p.TcWhile = 35 })
	mustChangePort(t, "Changed", api.Port{DesignatedTimes: x, SendRSTP: true}, port.Changed, func(p *api.Port) { p.TcWhile, p.NewInfo = 3, true })
	mustChangePort(t, "Changed", api.Port{PortTimes: x, MsgTimes: x}, port.Changed, func(p *api.Port) {})
	mustChangePort(t, "Changed", api.Port{PortTimes: x, MsgTimes: x, SendRSTP: true}, port.Changed, func(p *api.Port) { p.TcWhile, p.NewInfo = 1, true })
}

func TestChangedByTheTimes(t *testing.T) {
	for _, c := range []struct {
		x         api.Times
		rapid, of int
	}{
		{api.Times{Age: 5, Max: 6, Hello: 1, Delay: 4}, 2, 10},
		{api.Times{Age: 5, Max: 40, Hello: 2, Delay: 30}, 3, 70},
		{api.Times{Age: 7}, 1, 0},
		{api.Times{Max: 6}, 1, 6},
		{api.Times{Delay: 4}, 1, 4},
		{api.Times{Hello: -1}, 0, 0},
		{api.Times{Age: 1, Max: -20, Hello: -2, Delay: 15}, -1, -5},
		{api.Times{Age: 1, Max: most, Hello: most, Delay: most}, most + 1, 2 * most},
		{api.Times{Age: 1, Max: least, Hello: least, Delay: least}, least + 1, 2 * least},
	} {
		p := withTimes(c.x, true, true)
		p.TcWhile, p.NewInfo = 0, false
		mustChangePort(t, "Changed", p, port.Changed, func(p *api.Port) { p.TcWhile, p.NewInfo = c.rapid, true })
		p.SendRSTP = false
		mustChangePort(t, "Changed", p, port.Changed, func(p *api.Port) { p.TcWhile = c.of })
	}
}

// While a port tells of a change, a second one doesn't make that longer; after it, it does so anew.
func TestChangedAgain(t *testing.T) {
	b := bridgeOf(telling(0, true, false))
	p := port.Of(&b, 0)
	for range 2 {
		for _, want := range []int{3, 2, 1} {
			port.Changed(p)
			if p.TcWhile != want {
				t.Errorf("TcWhile is %d, not %d", p.TcWhile, want)
			}
			port.Tick(&b)
		}
	}
}

// P13.3: BetterOrSame

// middle is a vector than which there are better ones and worse ones by each of its fields.
var middle = api.Vector{Root: 0x8000_0200_0000_0005, Cost: 200000, Bridge: 0x8000_0200_0000_0007, Port: 0x8003}

// better are vectors that are better than middle: by each of the fields, also where all after it are worse.
var better = []api.Vector{
	{},
	{Root: middle.Root - 1, Cost: middle.Cost, Bridge: middle.Bridge, Port: middle.Port},
	{Root: middle.Root - 1, Cost: math.MaxUint32, Bridge: math.MaxUint64, Port: math.MaxUint16},
	{Root: 0x7000_0200_0000_0009, Cost: middle.Cost, Bridge: middle.Bridge, Port: middle.Port},
	{Root: middle.Root, Cost: middle.Cost - 1, Bridge: middle.Bridge, Port: middle.Port},
	{Root: middle.Root, Cost: middle.Cost - 1, Bridge: math.MaxUint64, Port: math.MaxUint16},
	{Root: middle.Root, Cost: middle.Cost, Bridge: middle.Bridge - 1, Port: middle.Port},
	{Root: middle.Root, Cost: middle.Cost, Bridge: middle.Bridge - 1, Port: math.MaxUint16},
	{Root: middle.Root, Cost: middle.Cost, Bridge: 0x7000_0200_0000_0007, Port: middle.Port},
	{Root: middle.Root, Cost: middle.Cost, Bridge: middle.Bridge, Port: middle.Port - 1},
	{Root: middle.Root, Cost: middle.Cost, Bridge: middle.Bridge, Port: 0x7003},
}

// worse are vectors that are worse than middle, in the same way; some are from the same source.
var worse = []api.Vector{
	{Root: math.MaxUint64, Cost: math.MaxUint32, Bridge: math.MaxUint64, Port: math.MaxUint16},
	{Root: middle.Root + 1, Cost: middle.Cost, Bridge: middle.Bridge, Port: middle.Port},
	{Root: middle.Root + 1},
	{Root: middle.Root, Cost: middle.Cost + 1, Bridge: middle.Bridge, Port: middle.Port},
	{Root: middle.Root, Cost: middle.Cost + 1},
	{Root: middle.Root, Cost: middle.Cost, Bridge: middle.Bridge + 1, Port: middle.Port},
	{Root: middle.Root, Cost: middle.Cost, Bridge: middle.Bridge + 1},
	{Root: middle.Root, Cost: middle.Cost, Bridge: 0x9000_0200_0000_0007, Port: middle.Port},
	{Root: middle.Root, Cost: middle.Cost, Bridge: middle.Bridge, Port: middle.Port + 1},
	{Root: middle.Root, Cost: middle.Cost, Bridge: middle.Bridge, Port: 0x9003},
}

// infos are the four kinds, and some numbers that are none.
var infos = []api.Info{api.InfoDisabled, api.Aged, api.Mine, api.Received, -1, 4, 5, 256, 258, 259, math.MinInt, math.MaxInt}

// withVectors returns a port whose Vector is middle.
func withVectors(is api.Info, msg, designated api.Vector) api.Port {
	p := filledPort()
	p.InfoIs, p.Vector, p.MsgVector, p.DesignatedVector = is, middle, msg, designated
	return p
}

func mustBeBetterOrSame(t *testing.T, p api.Port, info api.Info, want bool) {
	t.Helper()
	before := p
	for range 2 {
		if got := port.BetterOrSame(&p, info); got != want {
			t.Errorf("InfoIs %d, info %d: %x, the message's %x, the designated %x: %v", p.InfoIs, info, p.Vector, p.MsgVector, p.DesignatedVector, got)
		}
	}
	if p != before {
		t.Errorf("BetterOrSame changes the port to %+v", p)
	}
}

// mustTellOf asks with every kind of info; only that which the port's InfoIs is may be answered by true.
func mustTellOf(t *testing.T, p api.Port, want bool) {
	t.Helper()
	for _, info := range infos {
		mustBeBetterOrSame(t, p, info, want && info == p.InfoIs)
	}
}

// For each of the two, the vector of the other one doesn't count, however good or bad it is.
func TestBetterOrSame(t *testing.T) {
	others := []api.Vector{better[0], better[1], middle, worse[0], worse[1]}
	for _, other := range others {
		for _, v := range append([]api.Vector{middle}, better...) {
			mustTellOf(t, withVectors(api.Received, v, other), true)
			mustTellOf(t, withVectors(api.Mine, other, v), true)
		}
		for _, v := range worse {
			mustTellOf(t, withVectors(api.Received, v, other), false)
			mustTellOf(t, withVectors(api.Mine, other, v), false)
		}
	}
}

// What a port has from anywhere else is never held against a vector.
func TestBetterOrSameOfOtherInfos(t *testing.T) {
	for _, is := range infos {
		if is == api.Mine || is == api.Received {
			continue
		}
		for _, v := range []api.Vector{better[0], better[4], middle, worse[0], worse[4]} {
			mustTellOf(t, withVectors(is, v, v), false)
		}
	}
}

func TestBetterOrSameOfPortsThatAreEmptyOtherwise(t *testing.T) {
	for _, is := range infos {
		same := is == api.Mine || is == api.Received
		mustTellOf(t, api.Port{InfoIs: is}, same)
		mustTellOf(t, api.Port{InfoIs: is, Vector: middle, MsgVector: middle, DesignatedVector: middle}, same)
		// All is better than the vector; then the vector is better than the others.
		mustTellOf(t, api.Port{InfoIs: is, Vector: middle}, same)
		mustTellOf(t, api.Port{InfoIs: is, MsgVector: middle, DesignatedVector: middle}, false)
	}
}

// P13.3: Lives

func TestLives(t *testing.T) {
	for _, c := range []struct {
		x    api.Times
		want int
	}{
		// ordinary
		{api.Times{Age: 0, Max: 20, Hello: 2, Delay: 15}, 6}, {api.Times{Age: 1, Max: 20, Hello: 1, Delay: 15}, 3}, {api.Times{Age: 7, Max: 40, Hello: 10, Delay: 15}, 30},
		// an Age below Max, exactly that, and above
		{api.Times{Age: 18, Max: 20, Hello: 2}, 6}, {api.Times{Age: 19, Max: 20, Hello: 2}, 6}, {api.Times{Age: 20, Max: 20, Hello: 2}, 0}, {api.Times{Age: 21, Max: 20, Hello: 2}, 0},
		{api.Times{Age: 5, Max: 6, Hello: 1}, 3}, {api.Times{Age: 6, Max: 6, Hello: 1}, 0}, {api.Times{Age: 255, Max: 6, Hello: 1}, 0},
		// around 0, and below
		{api.Times{}, 0}, {api.Times{Hello: 2}, 0}, {api.Times{Max: 1}, 0}, {api.Times{Max: 1, Hello: 2}, 6}, {api.Times{Age: -1, Hello: 2}, 6},
		{api.Times{Max: -1, Hello: 2}, 0}, {api.Times{Age: -3, Max: -2, Hello: 2}, 6}, {api.Times{Max: 20, Hello: -2}, -6},
		// the ends
		{api.Times{Age: most - 1, Max: most, Hello: most}, 3 * most}, {api.Times{Age: most, Max: most, Hello: most}, 0},
		{api.Times{Age: least, Max: least + 1, Hello: least}, 3 * least}, {api.Times{Age: most, Max: least, Hello: 2}, 0},
	} {
		for _, before := range []int{0, 1, -1, 6, most, least} {
			for _, p := range []api.Port{{}, filledPort()} {
				p.PortTimes, p.RcvdInfoWhile = c.x, before
				mustChangePort(t, "Lives", p, port.Lives, func(p *api.Port) { p.RcvdInfoWhile = c.want })
			}
		}
	}
}

// Neither the times of the message nor the designated ones count: only those that the port has.
func TestLivesByThePortTimesAlone(t *testing.T) {
	p := filledPort()
	p.PortTimes = api.Times{Age: 3, Max: 20, Hello: 2, Delay: 15}
	p.MsgTimes = api.Times{Age: 9, Max: 9, Hello: 1, Delay: 4}
	p.DesignatedTimes = api.Times{Age: 8, Max: 8, Hello: 9, Delay: 5}
	mustChangePort(t, "Lives", p, port.Lives, func(p *api.Port) { p.RcvdInfoWhile = 6 })
	p.PortTimes.Age = 20
	p.MsgTimes, p.DesignatedTimes = api.Times{Max: 20, Hello: 1}, api.Times{Max: 20, Hello: 2}
	mustChangePort(t, "Lives", p, port.Lives, func(p *api.Port) { p.RcvdInfoWhile = 0 })
}

// P1

// The chapter promises nothing for these, except for Of and Tick; but no call panics.
func TestNoBridgeAndNoPort(t *testing.T) {
	for _, i := range []int{-1, 0, 1} {
		port.Prop(nil, i)
		if port.ReRooted(nil, i) {
			t.Error("ReRooted of no bridge")
		}
	}
	port.Sync(nil)
	port.ReRoot(nil)
	port.Changed(nil)
	port.Lives(nil)
	if port.Synced(nil) {
		t.Error("Synced of no bridge")
	}
	if port.Hello(nil) != 0 || port.Delay(nil) != 0 || port.Edge(nil) != 0 {
		t.Error("a time of no port")
	}
	for _, info := range infos {
		if port.BetterOrSame(nil, info) {
			t.Error("BetterOrSame of no port")
		}
	}
}
