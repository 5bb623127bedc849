package roles_test

import (
	"math"
	"reflect"
	"slices"
	"testing"

	"catenary/api"
	"catenary/choose"
	"catenary/roles"
)

// fill sets all that a value is made of to numbers from n on, and to flag; it leaves slices as they are.
func fill(v reflect.Value, n int, flag bool) int {
	switch v.Kind() {
	case reflect.Struct:
		for i := range v.NumField() {
			n = fill(v.Field(i), n, flag)
		}
		return n
	case reflect.Slice:
		return n
	case reflect.Bool:
		v.SetBool(flag)
	case reflect.Int:
		v.SetInt(int64(n))
	default:
		v.SetUint(uint64(n))
	}
	return n + 1
}

// filledPort returns a port in which no number is zero, no two are equal, and each flag is the same.
func filledPort(flag bool) api.Port {
	var p api.Port
	fill(reflect.ValueOf(&p).Elem(), 40, flag)
	return p
}

// bases are ports whose other fields shall make no difference, and stay as they are.
func bases() []api.Port {
	return []api.Port{{}, filledPort(false), filledPort(true)}
}

// self is the identifier of the bridge whose machine it is; less is another one's that is better, more a worse one's.
const (
	less = api.BridgeID(0x8000_0200_0000_0003)
	self = api.BridgeID(0x8000_0200_0000_0005)
	more = api.BridgeID(0x8000_0200_0000_0007)
)

// ownTimes are the bridge's, toldTimes those of a message.
var (
	ownTimes  = api.Times{Max: 20, Hello: 2, Delay: 15}
	toldTimes = api.Times{Age: 3, Max: 18, Hello: 1, Delay: 14}
)

// Vectors that a port may have.
var (
	good  = api.Vector{Root: less, Cost: 100, Bridge: less, Port: 0x8001}
	worse = api.Vector{Root: less, Cost: 900, Bridge: less, Port: 0x8002}
	bad   = api.Vector{Root: more, Bridge: more, Port: 0x8001}
	mine  = api.Vector{Root: less, Bridge: self, Port: 0x8001}
)

var (
	bools = []bool{false, true}
	// states are the machine's, and numbers that aren't listed.
	states = []api.State{0, 1, 2, 3, -1, 40, math.MinInt, math.MaxInt}
	// noInfos are numbers that say of no vector where it is from.
	noInfos = []api.Info{-1, 4, 5, 40, math.MinInt, math.MaxInt}
	infos   = append([]api.Info{0, 1, 2, 3}, noInfos...)
	// allRoles are those that are listed, and numbers that aren't.
	allRoles = []api.Role{0, 1, 2, 3, 4, -1, 5, 40, math.MinInt, math.MaxInt}
)

// bridgeOf returns a bridge with these ports, in which nothing else is zero.
func bridgeOf(ports ...api.Port) api.Bridge {
	var b api.Bridge
	fill(reflect.ValueOf(&b).Elem(), 200, true)
	b.ID, b.Times, b.Ports = self, ownTimes, ports
	return b
}

// portOf returns the port with this identifier, and a vector from there.
func portOf(base api.Port, id api.PortID, from api.Info, v api.Vector) api.Port {
	base.ID, base.Cost, base.InfoIs, base.Vector, base.PortTimes = id, 20, from, v, toldTimes
	return base
}

// several returns one port of each listed InfoIs, one of none, and others that are Received; the fourth one is the root port.
func several(base api.Port) []api.Port {
	return []api.Port{
		portOf(base, 0x8001, api.InfoDisabled, good),
		portOf(base, 0x8002, api.Aged, good),
		portOf(base, 0x8003, api.Mine, good),
		portOf(base, 0x8004, api.Received, good),
		portOf(base, 0x8005, -7, good),
		portOf(base, 0x8006, api.Received, good),
		portOf(base, 0x8007, api.Received, worse),
		portOf(base, 0x8008, api.Received, mine),
	}
}

// copied returns a bridge that shares nothing with b.
func copied(b api.Bridge) api.Bridge {
	b.Ports = slices.Clone(b.Ports)
	return b
}

// same reports whether two bridges are equal; a bridge without ports has none, or a list of none.
func same(a, b api.Bridge) bool {
	if !slices.Equal(a.Ports, b.Ports) {
		return false
	}
	a.Ports, b.Ports = nil, nil
	return reflect.DeepEqual(a, b)
}

func mustBe(t *testing.T, what string, got, want api.Bridge) {
	t.Helper()
	if same(got, want) {
		return
	}
	for i := range min(len(got.Ports), len(want.Ports)) {
		if got.Ports[i] != want.Ports[i] {
			t.Fatalf("%s: port %d is\n%+v, not\n%+v", what, i, got.Ports[i], want.Ports[i])
		}
	}
	t.Fatalf("%s: %+v, not %+v", what, got, want)
}

// selected returns the bridge behind SELECTION, written out.
func selected(b api.Bridge) api.Bridge {
	b = copied(b)
	choose.Update(&b)
	for i := range b.Ports {
		b.Ports[i].Reselect = false
		b.Ports[i].Selected = true
	}
	b.Prs = 1
	return b
}

// started returns the bridge behind Start.
func started(b api.Bridge) api.Bridge {
	b = copied(b)
	for i := range b.Ports {
		b.Ports[i].SelectedRole = 0
	}
	return selected(b)
}

// mustStart starts the machine, and holds that nothing else is done.
func mustStart(t *testing.T, b api.Bridge) {
	t.Helper()
	got := copied(b)
	roles.Start(&got)
	mustBe(t, "Start", got, started(b))
}

// mustSelect holds that a step selects roles, that nothing else is done, and that nothing is left to be done.
func mustSelect(t *testing.T, b api.Bridge) {
	t.Helper()
	got, want := copied(b), selected(b)
	if !roles.Step(&got) {
		t.Fatalf("Step of %+v returns false", b)
	}
	mustBe(t, "Step", got, want)
	mustRest(t, got)
}

// mustRest holds that there is no step.
func mustRest(t *testing.T, b api.Bridge) {
	t.Helper()
	got := copied(b)
	if roles.Step(&got) {
		t.Fatalf("Step of %+v returns true", b)
	}
	mustBe(t, "Step that returns false", got, b)
}

// reselects sets Reselect of a bridge's ports by the bits of a number.
func reselects(b *api.Bridge, bits int) {
	for i := range b.Ports {
		b.Ports[i].Reselect = bits>>i&1 != 0
	}
}

// mustStep makes a step for each combination of Reselect of all ports.
func mustStep(t *testing.T, b api.Bridge) {
	t.Helper()
	b = copied(b)
	for bits := range 1 << len(b.Ports) {
		reselects(&b, bits)
		if bits == 0 {
			mustRest(t, b)
		} else {
			mustSelect(t, b)
		}
	}
}

// P16.1: the numbers of the states

func TestStates(t *testing.T) {
	got := []api.State{roles.Begun, roles.Selection}
	if want := []api.State{0, 1}; !slices.Equal(got, want) {
		t.Errorf("%v", got)
	}
}

// P16.1: no bridge

func TestNoBridge(t *testing.T) {
	roles.Start(nil)
	if roles.Step(nil) {
		t.Error("Step of no bridge")
	}
	if l := roles.Of(nil); len(l) != 0 {
		t.Errorf("Of no bridge is %v", l)
	}
}

// P16.1: no ports

func TestStartWithoutPorts(t *testing.T) {
	for _, ports := range [][]api.Port{nil, {}} {
		for _, s := range states {
			b := bridgeOf(ports...)
			b.Prs = s
			want := b
			want.Root, want.RootPort, want.RootTimes, want.Prs = api.Vector{Root: self, Bridge: self}, 0, ownTimes, 1
			roles.Start(&b)
			mustBe(t, "Start", b, want)
			mustRest(t, b)
		}
	}
	var b api.Bridge
	roles.Start(&b)
	mustBe(t, "Start of an empty bridge", b, api.Bridge{Prs: 1})
}

func TestStepWithoutPorts(t *testing.T) {
	for _, ports := range [][]api.Port{nil, {}} {
		for _, s := range states {
			b := bridgeOf(ports...)
			b.Prs = s
			mustRest(t, b)
		}
	}
	mustRest(t, api.Bridge{})
}

// P16.1: Start

// The port whose InfoIs none of the rules names has no role, whatever was selected for it.
func TestStartWhateverWasSelected(t *testing.T) {
	for _, base := range bases() {
		for _, from := range infos {
			for _, role := range allRoles {
				p := portOf(base, 0x8001, from, good)
				p.SelectedRole = role
				b := bridgeOf(p)
				mustStart(t, b)
				roles.Start(&b)
				want := map[api.Info]api.Role{1: api.Designated, 2: api.Designated, 3: api.Root}[from]
				if got := b.Ports[0].SelectedRole; got != want {
					t.Errorf("InfoIs %d, SelectedRole %d: it becomes %d, not %d", from, role, got, want)
				}
			}
		}
	}
}

func TestStartOfPortsWithoutInfo(t *testing.T) {
	for _, base := range bases() {
		for _, from := range noInfos {
			p := portOf(base, 0x8001, from, good)
			p.SelectedRole = api.Backup
			b := bridgeOf(p, p, p)
			roles.Start(&b)
			for i, p := range b.Ports {
				if p.SelectedRole != api.Disabled || p.UpdtInfo != base.UpdtInfo || !p.Selected || p.Reselect {
					t.Errorf("InfoIs %d, port %d: %+v", from, i, p)
				}
			}
		}
	}
}

// It starts whether or not a port asks for it, from any state.
func TestStartFromAnyState(t *testing.T) {
	for _, base := range bases() {
		for _, s := range states {
			b := bridgeOf(several(base)...)
			b.Prs = s
			for _, bits := range []int{0, 1, 2, 128, 130, 255} {
				reselects(&b, bits)
				mustStart(t, b)
			}
		}
	}
}

// It can be done again, and makes the same of what it has left.
func TestStartTwice(t *testing.T) {
	b := bridgeOf(several(filledPort(true))...)
	roles.Start(&b)
	mustStart(t, b)
	mustRest(t, b)
}

// P16.1: SELECTION

// chosen is what Update has to make of a port.
type chosen struct {
	role     api.Role
	updtInfo bool
}

// mustHave holds what Update has to make of several ports, written out; kept is what it leaves as it was.
func mustHave(t *testing.T, what string, b api.Bridge, kept chosen, before bool) {
	t.Helper()
	root := api.Vector{Root: less, Cost: 120, Bridge: less, Port: 0x8001}
	if b.Root != root || b.RootPort != 0x8004 || b.RootTimes != (api.Times{Age: 4, Max: 18, Hello: 1, Delay: 14}) {
		t.Errorf("%s: Root %x, RootPort %x, RootTimes %v", what, b.Root, b.RootPort, b.RootTimes)
	}
	want := []chosen{
		{api.Disabled, before}, {api.Designated, true}, {api.Designated, true}, {api.Root, false},
		kept, {api.Alternate, false}, {api.Designated, true}, {api.Backup, false},
	}
	for i, p := range b.Ports {
		if got := (chosen{p.SelectedRole, p.UpdtInfo}); got != want[i] {
			t.Errorf("%s: port %d has %v, not %v", what, i, got, want[i])
		}
		v := api.Vector{Root: less, Cost: 120, Bridge: self, Port: p.ID}
		if p.DesignatedVector != v || p.DesignatedTimes != (api.Times{Age: 4, Max: 18, Hello: 2, Delay: 14}) {
			t.Errorf("%s: port %d has %x, %v", what, i, p.DesignatedVector, p.DesignatedTimes)
		}
	}
}

// Start takes the role from a port whose InfoIs isn't listed, and Step leaves it.
func TestSelectionWrittenOut(t *testing.T) {
	for _, before := range bools {
		for _, role := range allRoles {
			ports := several(filledPort(before))
			for i := range ports {
				ports[i].SelectedRole = role
			}
			b := bridgeOf(ports...)
			reselects(&b, 1<<6)
			s := copied(b)
			if !roles.Step(&b) {
				t.Fatal("Reselect is set")
			}
			mustHave(t, "Step", b, chosen{role, before}, before)
			roles.Start(&s)
			mustHave(t, "Start", s, chosen{api.Disabled, before}, before)
		}
	}
}

// Without a root port, the bridge is the root.
func TestSelectionWithoutRootPort(t *testing.T) {
	for _, from := range []api.Info{api.InfoDisabled, api.Aged, api.Mine, api.Received, -1, 4} {
		p := portOf(filledPort(true), 0x8001, from, bad)
		b := bridgeOf(p)
		if !roles.Step(&b) {
			t.Fatal("Reselect is set")
		}
		if b.Root != (api.Vector{Root: self, Bridge: self}) || b.RootPort != 0 || b.RootTimes != ownTimes || b.Prs != 1 {
			t.Errorf("InfoIs %d: %+v", from, b)
		}
	}
}

// P16.1: Step

// One port alone, with everything that it may be before.
func TestStepOfOnePort(t *testing.T) {
	for _, base := range bases() {
		for _, from := range infos {
			for _, role := range allRoles {
				for _, s := range states {
					p := portOf(base, 0x8001, from, good)
					p.SelectedRole = role
					b := bridgeOf(p)
					b.Prs = s
					mustStep(t, b)
				}
			}
		}
	}
}

// Reselect of none, of one, of the first, of the last, of all, and all others.
func TestStepByReselect(t *testing.T) {
	for _, base := range bases() {
		for _, s := range states {
			b := bridgeOf(several(base)...)
			b.Prs = s
			mustStep(t, b)
		}
	}
}

// One of many ports suffices, wherever it is, also where there are more of them than MaxPorts.
func TestStepByReselectOfOneAmongMany(t *testing.T) {
	b := bridgeOf(slices.Repeat(several(api.Port{}), 5)...)
	mustRest(t, b)
	for i := range b.Ports {
		b.Ports[i].Reselect = true
		mustSelect(t, b)
		b.Ports[i].Reselect = false
	}
}

// None of the other flags asks for a selection, nor does any state, nor that it was done before or never.
func TestStepByNothingElse(t *testing.T) {
	for _, s := range states {
		for _, selected := range bools {
			p := filledPort(true)
			p.Reselect, p.Selected = false, selected
			b := bridgeOf(p, api.Port{Selected: selected}, p)
			b.Prs = s
			mustRest(t, b)
		}
	}
}

// All pairs of InfoIs, with all combinations of both flags.
func TestStepOfAllPairs(t *testing.T) {
	for _, base := range bases() {
		for _, first := range infos {
			for _, second := range infos {
				b := bridgeOf(portOf(base, 0x8001, first, worse), portOf(base, 0x8002, second, good))
				for bits := range 4 {
					b.Ports[0].Selected, b.Ports[1].Selected = bits&1 != 0, bits&2 != 0
					mustStep(t, b)
					mustStart(t, b)
				}
			}
		}
	}
}

// What was selected before makes no difference, where a rule names InfoIs.
func TestStepWhateverWasSelected(t *testing.T) {
	for _, role := range allRoles {
		for _, updtInfo := range bools {
			ports := several(api.Port{Role: 2, SelectedRole: role, Reselect: true, UpdtInfo: updtInfo})
			b := bridgeOf(ports...)
			mustSelect(t, b)
			mustStart(t, b)
		}
	}
}

// The Role is what the port has taken on: selecting one leaves it.
func TestRolesStay(t *testing.T) {
	for _, role := range allRoles {
		ports := several(api.Port{Role: role, Reselect: true})
		b, s := bridgeOf(ports...), bridgeOf(slices.Clone(ports)...)
		roles.Step(&b)
		roles.Start(&s)
		want := slices.Repeat([]api.Role{role}, len(ports))
		if !slices.Equal(roles.Of(&b), want) || !slices.Equal(roles.Of(&s), want) {
			t.Errorf("%v, %v, not %v", roles.Of(&b), roles.Of(&s), want)
		}
	}
}

// A port behind the list's length doesn't ask for anything, gets nothing, and isn't told.
func TestWithinTheLength(t *testing.T) {
	for _, base := range bases() {
		base.Reselect, base.Role = true, api.Backup
		behind := portOf(base, 0x8009, api.Received, api.Vector{})
		all := append(several(api.Port{}), behind)
		b := bridgeOf(all[:8]...)
		for _, do := range []func(){
			func() { mustRestInPlace(t, &b) },
			func() { roles.Start(&b) },
			func() { b.Ports[3].Reselect = true; roles.Step(&b) },
		} {
			do()
			if all[8] != behind {
				t.Fatalf("the port behind becomes %+v", all[8])
			}
		}
		if l := roles.Of(&b); len(l) != 8 || b.RootPort != 0x8004 {
			t.Errorf("%v, RootPort %x", l, b.RootPort)
		}
		none := bridgeOf(all[8:8]...)
		mustRestInPlace(t, &none)
		roles.Start(&none)
		if all[8] != behind || none.RootPort != 0 || len(roles.Of(&none)) != 0 {
			t.Errorf("%+v, %+v", all[8], none)
		}
	}
}

func mustRestInPlace(t *testing.T, b *api.Bridge) {
	t.Helper()
	if roles.Step(b) {
		t.Fatal("no port within the length asks for a selection")
	}
}

// P16.1: Of

func mustTell(t *testing.T, b api.Bridge, want ...api.Role) {
	t.Helper()
	got := copied(b)
	if l := roles.Of(&got); !slices.Equal(l, want) {
		t.Errorf("%v, not %v", l, want)
	}
	mustBe(t, "Of", got, b)
}

func TestOfNoPorts(t *testing.T) {
	mustTell(t, api.Bridge{})
	mustTell(t, bridgeOf())
	mustTell(t, bridgeOf([]api.Port{}...))
}

// It is the Role, and not the one that was selected.
func TestOfOnePort(t *testing.T) {
	for _, base := range bases() {
		for _, role := range allRoles {
			for _, other := range allRoles {
				base.Role, base.SelectedRole = role, other
				mustTell(t, bridgeOf(base), role)
			}
		}
	}
}

func TestOfSeveralPorts(t *testing.T) {
	for _, a := range allRoles {
		for _, b := range allRoles {
			for _, c := range allRoles {
				mustTell(t, bridgeOf(api.Port{Role: a, SelectedRole: c}, api.Port{Role: b}, api.Port{Role: c, SelectedRole: a}), a, b, c)
			}
		}
	}
	mustTell(t, bridgeOf(api.Port{Role: 4}, api.Port{Role: 3}, api.Port{Role: 2}, api.Port{Role: 1}, api.Port{}), 4, 3, 2, 1, 0)
}

// What Of returned is the caller's: a change of it changes no port, and nothing that is returned later.
func TestOfIsNotShared(t *testing.T) {
	b := bridgeOf(api.Port{Role: 1}, api.Port{Role: 2}, api.Port{Role: 3})
	before := copied(b)
	l, other := roles.Of(&b), roles.Of(&b)
	for i := range l {
		l[i] = 9
	}
	mustBe(t, "Of", b, before)
	if want := []api.Role{1, 2, 3}; !slices.Equal(other, want) || !slices.Equal(roles.Of(&b), want) {
		t.Errorf("%v, %v", other, roles.Of(&b))
	}
	b.Ports[0].Role = 4
	if want := []api.Role{1, 2, 3}; !slices.Equal(other, want) {
		t.Errorf("%v", other)
	}
	_ = append(l[:1], 7)
	mustTell(t, b, 4, 2, 3)
}

// P16.1: one after another

// The chapter's example.
func TestStepExample(t *testing.T) {
	b := api.Bridge{Ports: []api.Port{{}, {Reselect: true}}}
	if !roles.Step(&b) || roles.Step(&b) {
		t.Errorf("%+v", b)
	}
}

// A bridge's ports come up, hear of a better root, and lose it.
func TestOneAfterAnother(t *testing.T) {
	b := api.Bridge{ID: self, Times: ownTimes, Ports: []api.Port{{ID: 0x8001, Cost: 20}, {ID: 0x8002, Cost: 20}}}
	first, second := &b.Ports[0], &b.Ports[1]
	roles.Start(&b)
	mustRest(t, b)
	hears := func(p *api.Port, v api.Vector) {
		p.InfoIs, p.Vector, p.PortTimes, p.Reselect, p.Selected = api.Received, v, toldTimes, true, false
	}
	age := func(p *api.Port) { p.InfoIs, p.Reselect, p.Selected = api.Aged, true, false }
	for _, x := range []struct {
		name          string
		set           func()
		first, second api.Role
		rootPort      api.PortID
	}{
		{"the first is up", func() { age(first) }, api.Designated, api.Disabled, 0},
		{"the second is up", func() { age(second) }, api.Designated, api.Designated, 0},
		{"the second hears", func() { hears(second, worse) }, api.Designated, api.Root, 0x8002},
		{"the first hears better", func() { hears(first, good) }, api.Root, api.Designated, 0x8001},
		{"the second hears as good", func() { hears(second, good) }, api.Root, api.Alternate, 0x8001},
		{"the first hears no more", func() { age(first) }, api.Designated, api.Root, 0x8002},
		{"the second hears the first", func() { hears(second, mine) }, api.Designated, api.Backup, 0},
		{"both hear no more", func() { age(first); age(second) }, api.Designated, api.Designated, 0},
	} {
		x.set()
		if !roles.Step(&b) || roles.Step(&b) {
			t.Fatalf("%s: not one step", x.name)
		}
		if first.SelectedRole != x.first || second.SelectedRole != x.second || b.RootPort != x.rootPort {
			t.Errorf("%s: %d, %d, RootPort %x", x.name, first.SelectedRole, second.SelectedRole, b.RootPort)
		}
		if !first.Selected || !second.Selected || first.Reselect || second.Reselect || b.Prs != roles.Selection {
			t.Errorf("%s: %+v", x.name, b)
		}
		if !slices.Equal(roles.Of(&b), []api.Role{api.Disabled, api.Disabled}) {
			t.Errorf("%s: %v", x.name, roles.Of(&b))
		}
	}
}
