package trans_test

import (
	"fmt"
	"math"
	"reflect"
	"slices"
	"testing"

	"catenary/api"
	"catenary/trans"
)

// The ends of the seconds that a port may have.
const (
	least = -1 << 31
	most  = 1 << 31
)

// fill sets all that a value is made of to numbers from n on, and to flag; it leaves slices as they are.
func fill(v reflect.Value, n int, flag bool) int {
	switch v.Kind() {
	case reflect.Struct:
		for i := range v.NumField() {
			n = fill(v.Field(i), n, flag)
		}
		return n
	case reflect.Slice:
		return n
	case reflect.Bool:
		v.SetBool(flag)
	case reflect.Int:
		v.SetInt(int64(n))
	default:
		v.SetUint(uint64(n))
	}
	return n + 1
}

// filledPort returns a port in which no number is zero, no two are equal, and each flag is the same.
func filledPort(flag bool) api.Port {
	var p api.Port
	fill(reflect.ValueOf(&p).Elem(), 40, flag)
	return p
}

// bases are ports whose other fields shall make no difference, and stay as they are.
func bases() []api.Port {
	return []api.Port{{}, filledPort(false), filledPort(true)}
}

// bridgeOf returns a bridge with these ports, in which nothing else is zero.
func bridgeOf(rstp bool, ports ...api.Port) api.Bridge {
	var b api.Bridge
	fill(reflect.ValueOf(&b).Elem(), 200, true)
	b.Rstp, b.Ports = rstp, ports
	return b
}

// copied returns a bridge that shares nothing with b.
func copied(b api.Bridge) api.Bridge {
	b.Ports = slices.Clone(b.Ports)
	return b
}

// same reports whether two bridges are equal.
func same(a, b api.Bridge) bool {
	if !slices.Equal(a.Ports, b.Ports) {
		return false
	}
	a.Ports, b.Ports = nil, nil
	return reflect.DeepEqual(a, b)
}

func mustBe(t *testing.T, what string, got, want api.Bridge) {
	t.Helper()
	if same(got, want) {
		return
	}
	for i := range min(len(got.Ports), len(want.Ports)) {
		if got.Ports[i] != want.Ports[i] {
			t.Fatalf("%s: port %d is\n%+v, not\n%+v", what, i, got.Ports[i], want.Ports[i])
		}
	}
	t.Fatalf("%s: %+v, not %+v", what, got, want)
}

// change is what a transition of port i makes of a bridge; nil: there is no transition.
type change func(b *api.Bridge, i int)

// of returns the change of the port alone.
func of(f func(p *api.Port)) change {
	return func(b *api.Bridge, i int) { f(&b.Ports[i]) }
}

// mustStepAt makes a step of port i, and holds that it does what it should, and nothing else.
func mustStepAt(t *testing.T, b api.Bridge, i int, want change) {
	t.Helper()
	got, after := copied(b), copied(b)
	if want != nil {
		want(&after, i)
	}
	if made := trans.Step(&got, i); made != (want != nil) {
		t.Fatalf("Step of port %d, which was\n%+v, returns %v", i, b.Ports[i], made)
	}
	if !same(got, after) {
		mustBe(t, fmt.Sprintf("Step of port %d, which was\n%+v", i, b.Ports[i]), got, after)
	}
}

// among returns the bridge in which the port has place i among others.
func among(rstp bool, p api.Port, i int, others ...api.Port) api.Bridge {
	return bridgeOf(rstp, slices.Insert(slices.Clone(others), i, p)...)
}

// mustStepAmong makes the step at each place among these other ports.
func mustStepAmong(t *testing.T, rstp bool, p api.Port, others []api.Port, want change) {
	t.Helper()
	for i := range len(others) + 1 {
		mustStepAt(t, among(rstp, p, i, others...), i, want)
	}
}

// mustStep makes a step of a port alone, and among ports that are empty, filled, or such as itself, in bridges of both protocols.
// It is for transitions that don't hang on anything but the port.
func mustStep(t *testing.T, p api.Port, want change) {
	t.Helper()
	for _, rstp := range bools {
		mustStepAt(t, bridgeOf(rstp, p), 0, want)
		mustStepAmong(t, rstp, p, []api.Port{{}, filledPort(true)}, want)
		mustStepAmong(t, rstp, p, []api.Port{filledPort(false), p}, want)
	}
}

// flag is where a port has one of its flags.
type flag func(p *api.Port) *bool

func agree(p *api.Port) *bool        { return &p.Agree }
func agreed(p *api.Port) *bool       { return &p.Agreed }
func disputed(p *api.Port) *bool     { return &p.Disputed }
func forward(p *api.Port) *bool      { return &p.Forward }
func forwarding(p *api.Port) *bool   { return &p.Forwarding }
func learn(p *api.Port) *bool        { return &p.Learn }
func learning(p *api.Port) *bool     { return &p.Learning }
func newInfo(p *api.Port) *bool      { return &p.NewInfo }
func operEdge(p *api.Port) *bool     { return &p.OperEdge }
func pointToPoint(p *api.Port) *bool { return &p.PointToPoint }
func proposed(p *api.Port) *bool     { return &p.Proposed }
func proposing(p *api.Port) *bool    { return &p.Proposing }
func reRoot(p *api.Port) *bool       { return &p.ReRoot }
func selected(p *api.Port) *bool     { return &p.Selected }
func sendRSTP(p *api.Port) *bool     { return &p.SendRSTP }
func sync(p *api.Port) *bool         { return &p.Sync }
func synced(p *api.Port) *bool       { return &p.Synced }
func updtInfo(p *api.Port) *bool     { return &p.UpdtInfo }

// eachOf calls f for the port with all combinations of these flags.
func eachOf(p api.Port, flags []flag, f func(p api.Port)) {
	for bits := range 1 << len(flags) {
		for k, of := range flags {
			*of(&p) = bits>>k&1 != 0
		}
		f(p)
	}
}

// with returns the port with these flags set.
func with(p api.Port, set ...flag) api.Port {
	for _, of := range set {
		*of(&p) = true
	}
	return p
}

// without returns the port with these flags not set.
func without(p api.Port, unset ...flag) api.Port {
	for _, of := range unset {
		*of(&p) = false
	}
	return p
}

var (
	bools = []bool{false, true}
	// states are the machine's, and noStates those that aren't listed, below and above.
	states    = []api.State{0, 1, 2, 3, 4, 5}
	noStates  = []api.State{-1, -2, -5, 6, 7, 40, least, most, math.MinInt, math.MaxInt}
	allStates = slices.Concat(states, noStates)
	// roles are those that are listed, and noRoles numbers that aren't.
	roles    = []api.Role{0, 1, 2, 3, 4}
	noRoles  = []api.Role{-1, -2, -4, 5, 6, 40, least, most, math.MinInt, math.MaxInt}
	allRoles = slices.Concat(roles, noRoles)
	// notZero are seconds that aren't 0.
	notZero = []int{1, 2, 4, 15, 20, -1, -2, least, most}
	// usual are times of which no two are equal.
	usual = api.Times{Age: 1, Max: 20, Hello: 2, Delay: 15}
	// oddTimes are times that bridges don't have, but ports may be given.
	oddTimes = []api.Times{
		usual, {}, {Age: 9, Max: 6, Hello: 1, Delay: 4}, {Max: 7, Hello: 7, Delay: 7}, {Max: 0, Hello: 3, Delay: 0},
		{Age: -1, Max: -2, Hello: -3, Delay: -4}, {Max: least, Hello: least, Delay: least},
		{Max: most, Hello: most, Delay: most}, {Max: least, Hello: most, Delay: -1},
	}
)

// delayOf returns how long a port waits, written out.
func delayOf(p api.Port) int {
	if p.SendRSTP {
		return p.DesignatedTimes.Hello
	}
	return p.DesignatedTimes.Delay
}

// inState returns the port in that state, with this role, which was selected for it, and with the usual times.
func inState(base api.Port, s api.State, r api.Role) api.Port {
	p := without(with(base, selected), updtInfo)
	p.Role, p.SelectedRole, p.Prt, p.DesignatedTimes = r, r, s, usual
	return p
}

// What the transitions set, written out.

func disabled(p *api.Port) {
	p.Role = p.SelectedRole
	p.Learn = false
	p.Forward = false
	p.Prt = 0
}

func becameRoot(p *api.Port) {
	p.Role = p.SelectedRole
	p.RrWhile = p.DesignatedTimes.Delay
	p.Prt = 2
}

func becameDesignated(p *api.Port) {
	p.Role = p.SelectedRole
	p.Prt = 3
}

func blocked(p *api.Port) {
	p.Role = p.SelectedRole
	p.Learn = false
	p.Forward = false
	p.Prt = 4
}

// byRole is what another SelectedRole makes of a port.
var byRole = map[api.Role]func(p *api.Port){0: disabled, 1: becameRoot, 2: becameDesignated, 3: blocked, 4: blocked}

// rested returns what REST sets, and the state behind it.
func rested(seconds int, s api.State) change {
	return of(func(p *api.Port) {
		p.FdWhile = seconds
		p.Synced = true
		p.RrWhile = 0
		p.Sync = false
		p.ReRoot = false
		p.Prt = s
	})
}

// passedOn is what a proposal sets.
func passedOn(b *api.Bridge, i int) {
	for k := range b.Ports {
		b.Ports[k].Sync = true
	}
	b.Ports[i].Proposed = false
}

func agreedAsRoot(p *api.Port) {
	p.Sync = false
	agreedAsAlternate(p)
}

func agreedAsAlternate(p *api.Port) {
	p.Proposed = false
	p.Agree = true
	p.NewInfo = true
}

func reRooted(b *api.Bridge, _ int) {
	for k := range b.Ports {
		b.Ports[k].ReRoot = true
	}
}

func learnt(p *api.Port) {
	p.FdWhile = delayOf(*p)
	p.Learn = true
}

func forwards(p *api.Port) {
	p.FdWhile = 0
	p.Forward = true
}

func forwardsDesignated(p *api.Port) {
	p.FdWhile = 0
	p.Forward = true
	p.Agreed = p.SendRSTP
}

func hasReRooted(p *api.Port) { p.ReRoot = false }

func isRootLately(p *api.Port) { p.RrWhile = p.DesignatedTimes.Delay }

func proposes(p *api.Port) {
	p.Proposing = true
	p.EdgeDelayWhile = p.DesignatedTimes.Max
	if p.PointToPoint {
		p.EdgeDelayWhile = 3
	}
	p.NewInfo = true
}

func becameSynced(p *api.Port) {
	p.RrWhile = 0
	p.Synced = true
	p.Sync = false
}

func stopped(p *api.Port) {
	p.FdWhile = delayOf(*p)
	p.Learn = false
	p.Forward = false
	p.Disputed = false
}

func wasBackup(p *api.Port) { p.RbWhile = p.DesignatedTimes.Hello + p.DesignatedTimes.Hello }

// rule is a transition, and when it is made.
type rule struct {
	when func(b api.Bridge, p api.Port, i int) bool
	do   change
}

// first returns the first of the rules whose condition holds; nil: none does.
func first(rules []rule, b api.Bridge, i int) change {
	for _, r := range rules {
		if r.when(b, b.Ports[i], i) {
			return r.do
		}
	}
	return nil
}

// allSynced reports whether a bridge is Synced, written out.
func allSynced(b api.Bridge) bool {
	for _, p := range b.Ports {
		if !p.Selected || p.UpdtInfo || p.Role != p.SelectedRole {
			return false
		}
		if p.Role != 1 && !p.Synced {
			return false
		}
	}
	return true
}

// soon is SOON.
func soon(b api.Bridge, p api.Port, i int) bool {
	if p.FdWhile == 0 {
		return true
	}
	for k, q := range b.Ports {
		if k != i && q.RrWhile != 0 {
			return false
		}
	}
	return p.RbWhile == 0 && b.Rstp
}

// proposalToPassOn, and toAgree, are conditions of Root and of Alternate.
func proposalToPassOn(_ api.Bridge, p api.Port, _ int) bool { return p.Proposed && !p.Agree }

func toAgree(b api.Bridge, p api.Port, _ int) bool {
	return allSynced(b) && !p.Agree || p.Proposed && p.Agree
}

// inRoot are the transitions in Root.
var inRoot = []rule{
	{proposalToPassOn, passedOn},
	{toAgree, of(agreedAsRoot)},
	{func(_ api.Bridge, p api.Port, _ int) bool { return !p.Forward && !p.ReRoot }, reRooted},
	{func(b api.Bridge, p api.Port, i int) bool { return soon(b, p, i) && !p.Learn }, of(learnt)},
	{func(b api.Bridge, p api.Port, i int) bool { return soon(b, p, i) && p.Learn && !p.Forward }, of(forwards)},
	{func(_ api.Bridge, p api.Port, _ int) bool { return p.ReRoot && p.Forward }, of(hasReRooted)},
	{func(_ api.Bridge, p api.Port, _ int) bool { return p.RrWhile != p.DesignatedTimes.Delay }, of(isRootLately)},
}

// may is MAY.
func may(p api.Port) bool {
	if p.Sync || p.RrWhile != 0 && p.ReRoot {
		return false
	}
	return p.FdWhile == 0 || p.Agreed || p.OperEdge
}

// inDesignated are the transitions in Designated.
var inDesignated = []rule{
	{func(_ api.Bridge, p api.Port, _ int) bool {
		return !p.Forward && !p.Agreed && !p.Proposing && !p.OperEdge
	}, of(proposes)},
	{func(_ api.Bridge, p api.Port, _ int) bool {
		still := !p.Learning && !p.Forwarding
		return !p.Synced && (still || p.Agreed || p.OperEdge) || p.Synced && p.Sync
	}, of(becameSynced)},
	{func(_ api.Bridge, p api.Port, _ int) bool { return p.RrWhile == 0 && p.ReRoot }, of(hasReRooted)},
	{func(_ api.Bridge, p api.Port, _ int) bool { return may(p) && !p.Learn }, of(learnt)},
	{func(_ api.Bridge, p api.Port, _ int) bool { return may(p) && p.Learn && !p.Forward }, of(forwardsDesignated)},
	{func(_ api.Bridge, p api.Port, _ int) bool {
		why := p.Sync && !p.Synced || p.ReRoot && p.RrWhile != 0 || p.Disputed
		return !p.OperEdge && (p.Learn || p.Forward) && why
	}, of(stopped)},
}

// unrested is the condition under which a port in Disabled or Alternate rests anew.
func unrested(p api.Port, seconds int) bool {
	return p.FdWhile != seconds || p.Sync || p.ReRoot || !p.Synced
}

// inAlternate are the transitions in Alternate.
var inAlternate = []rule{
	{proposalToPassOn, passedOn},
	{toAgree, of(agreedAsAlternate)},
	{func(_ api.Bridge, p api.Port, _ int) bool { return unrested(p, delayOf(p)) }, func(b *api.Bridge, i int) {
		rested(delayOf(b.Ports[i]), 5)(b, i)
	}},
	{func(_ api.Bridge, p api.Port, _ int) bool {
		return p.Role == 4 && p.RbWhile != p.DesignatedTimes.Hello+p.DesignatedTimes.Hello
	}, of(wasBackup)},
}

// P17.1: the numbers of the states

func TestStates(t *testing.T) {
	got := []api.State{trans.Disable, trans.Disabled, trans.Root, trans.Designated, trans.Block, trans.Alternate}
	if !slices.Equal(got, states) {
		t.Errorf("%v", got)
	}
}

// P17.1: which port, and a port that there isn't

// ready are ports that have a transition to make, one in each state, and one that changes its role.
func ready() []api.Port {
	var l []api.Port
	for _, s := range states {
		l = append(l, without(inState(filledPort(true), s, api.Backup), learning, forwarding))
	}
	other := inState(filledPort(true), trans.Root, api.Root)
	other.SelectedRole = api.Alternate
	return append(l, other)
}

// Each of them at each place of bridges of all sizes, whose other ports are ready, too.
func TestStepsAtEachPlace(t *testing.T) {
	wants := []change{
		rested(20, 1), rested(20, 1), of(agreedAsRoot), of(becameSynced), rested(2, 5), of(agreedAsAlternate), of(blocked),
	}
	for k, p := range ready() {
		for n := range api.MaxPorts + 1 {
			for i := range n {
				mustStepAt(t, bridgeOf(true, slices.Repeat([]api.Port{p}, n)...), i, wants[k])
			}
		}
	}
}

// Those that set something in all ports, at each place of bridges of all sizes.
func TestStepsOfAllPorts(t *testing.T) {
	asked := without(inState(filledPort(true), trans.Root, api.Root), agree, sync)
	asksToReRoot := without(inState(filledPort(true), trans.Root, api.Root), proposed, forward, reRoot)
	alternate := without(inState(filledPort(true), trans.Alternate, api.Alternate), agree, sync)
	for n := range api.MaxPorts + 1 {
		for i := range n {
			mustStepAt(t, bridgeOf(true, slices.Repeat([]api.Port{asked}, n)...), i, passedOn)
			mustStepAt(t, bridgeOf(true, slices.Repeat([]api.Port{alternate}, n)...), i, passedOn)
			mustStepAt(t, bridgeOf(true, slices.Repeat([]api.Port{asksToReRoot}, n)...), i, reRooted)
		}
	}
}

// mustDoNothing holds that there is no such port, for both functions.
func mustDoNothing(t *testing.T, b *api.Bridge, i int) {
	t.Helper()
	if trans.Step(b, i) {
		t.Errorf("Step of port %d returns true", i)
	}
	trans.Start(b, i)
}

func TestNoSuchPort(t *testing.T) {
	for n := range api.MaxPorts + 1 {
		for _, p := range ready() {
			for _, rstp := range bools {
				// One more port lies behind the slice's length.
				ports := slices.Repeat([]api.Port{p}, n+1)
				b := bridgeOf(rstp, ports[:n]...)
				before := copied(b)
				for _, i := range []int{-1, -2, -n - 1, n, n + 1, least, most, math.MinInt, math.MaxInt} {
					mustDoNothing(t, &b, i)
				}
				mustBe(t, "no such port", b, before)
				if ports[n] != p {
					t.Errorf("the port behind the last one is %+v", ports[n])
				}
			}
		}
	}
}

// What is set in all ports isn't set in one behind the slice's length, and what that one has makes no difference.
func TestWithinTheLength(t *testing.T) {
	behind := api.Port{RrWhile: 7}
	p := without(inState(filledPort(true), trans.Root, api.Root), agree)
	p.RbWhile, p.RrWhile = 0, 15
	for _, x := range []struct {
		p    api.Port
		want change
	}{
		{p, passedOn},
		{without(p, proposed), of(agreedAsRoot)},
		{without(with(p, agree), proposed, forward, reRoot), reRooted},
		{without(with(p, agree), proposed, forward, learn), of(learnt)},
		{without(with(p, agree), proposed, forward), of(forwards)},
	} {
		ports := []api.Port{x.p, behind}
		b := bridgeOf(true, ports[:1]...)
		after := copied(b)
		x.want(&after, 0)
		if !trans.Step(&b, 0) {
			t.Fatalf("no step of %+v", x.p)
		}
		mustBe(t, "Step", b, after)
		if ports[1] != behind {
			t.Errorf("the port behind becomes %+v", ports[1])
		}
	}
}

func TestNoPortsAtAll(t *testing.T) {
	for _, b := range []api.Bridge{{}, {Rstp: true}, {Ports: []api.Port{}}, bridgeOf(true)} {
		before := copied(b)
		for _, i := range []int{-1, 0, 1} {
			mustDoNothing(t, &b, i)
		}
		mustBe(t, "no ports", b, before)
	}
}

func TestNoBridge(t *testing.T) {
	for _, i := range []int{-1, 0, 1, least, most, math.MinInt, math.MaxInt} {
		mustDoNothing(t, nil, i)
	}
}

// P17.1: Start

// mustStart starts the machine of a port alone, and of one among others.
func mustStart(t *testing.T, p api.Port) {
	t.Helper()
	want := p
	want.SelectedRole, want.Role = 0, 0
	want.Learn, want.Forward, want.Synced = false, false, false
	want.Sync, want.ReRoot = true, true
	want.RrWhile, want.FdWhile, want.RbWhile = p.DesignatedTimes.Delay, p.DesignatedTimes.Max, 0
	want.Prt = 0
	for _, rstp := range bools {
		for _, others := range [][]api.Port{{}, {{}, filledPort(true)}, {filledPort(false), p}} {
			for i := range len(others) + 1 {
				got := among(rstp, p, i, others...)
				trans.Start(&got, i)
				mustBe(t, "Start", got, among(rstp, want, i, others...))
			}
		}
	}
}

func TestStart(t *testing.T) {
	for _, base := range bases() {
		mustStart(t, base)
		for _, s := range allStates {
			for _, r := range allRoles {
				base.Prt, base.Role, base.SelectedRole = s, r, r+1
				mustStart(t, base)
			}
		}
	}
}

// Each of what it sets has been otherwise, and as it becomes.
func TestStartByFlags(t *testing.T) {
	for _, base := range bases() {
		eachOf(base, []flag{learn, forward, synced, sync, reRoot, sendRSTP, selected, updtInfo}, func(p api.Port) {
			mustStart(t, p)
		})
	}
}

func TestStartByTimes(t *testing.T) {
	for _, base := range bases() {
		for _, x := range oddTimes {
			for _, n := range append(notZero, 0) {
				base.DesignatedTimes, base.FdWhile, base.RrWhile, base.RbWhile = x, n, n, n
				mustStart(t, base)
			}
		}
	}
}

// Start sets no more, if it is done again.
func TestStartTwice(t *testing.T) {
	b := bridgeOf(true, filledPort(true), filledPort(true))
	trans.Start(&b, 1)
	before := copied(b)
	trans.Start(&b, 1)
	mustBe(t, "Start", b, before)
}

// P17.1: no transition

// A port that isn't Selected, or is UpdtInfo, makes none, neither to another role nor in any state.
func TestNotSelected(t *testing.T) {
	for _, p := range ready() {
		for _, s := range allStates {
			for _, r := range allRoles {
				p.Prt, p.SelectedRole = s, r
				for _, x := range []api.Port{without(p, selected), with(p, updtInfo), with(without(p, selected), updtInfo)} {
					mustStepAt(t, bridgeOf(true, x), 0, nil)
					mustStepAt(t, bridgeOf(true, p, x, p), 1, nil)
				}
			}
		}
	}
}

// Each of the four combinations, with a transition that else is to be made in each state.
func TestSelectedAndUpdtInfo(t *testing.T) {
	wants := []change{
		rested(20, 1), rested(20, 1), of(agreedAsRoot), of(becameSynced), rested(2, 5), of(agreedAsAlternate), of(blocked),
	}
	for k, p := range ready() {
		eachOf(p, []flag{selected, updtInfo}, func(p api.Port) {
			if p.Selected && !p.UpdtInfo {
				mustStepAt(t, bridgeOf(true, p), 0, wants[k])
			} else {
				mustStepAt(t, bridgeOf(true, p), 0, nil)
			}
		})
	}
}

// A port that isn't Selected, or is UpdtInfo, makes none, but others do.
func TestOnlyItsOwnSelected(t *testing.T) {
	p := inState(api.Port{}, trans.Designated, api.Designated)
	p.SelectedRole = api.Root
	for _, other := range []api.Port{{}, {UpdtInfo: true}, {Selected: true, UpdtInfo: true}} {
		mustStepAmong(t, true, p, []api.Port{other, other}, of(becameRoot))
	}
}

// P17.1: another role

// Each SelectedRole, from each role and from each state, listed or not.
func TestOtherRole(t *testing.T) {
	for _, base := range bases() {
		for _, s := range allStates {
			for _, r := range allRoles {
				for _, to := range allRoles {
					if r == to {
						continue
					}
					p := inState(base, s, r)
					p.SelectedRole = to
					var want change
					if f := byRole[to]; f != nil {
						want = of(f)
					}
					mustStepAt(t, bridgeOf(false, p), 0, want)
					mustStepAt(t, bridgeOf(true, base, p, p), 1, want)
				}
			}
		}
	}
}

// What is done hangs on no flag, and leaves all but Learn and Forward, and those two, too, where the chapter doesn't name them.
func TestOtherRoleByFlags(t *testing.T) {
	flags := []flag{learn, forward, learning, forwarding, sendRSTP, sync, synced, reRoot}
	for to, f := range byRole {
		p := inState(api.Port{}, trans.Designated, 9)
		p.SelectedRole = to
		eachOf(p, flags, func(p api.Port) { mustStep(t, p, of(f)) })
	}
}

// Written out: which of them stop, and which go on.
func TestOtherRoleLearns(t *testing.T) {
	for to, goesOn := range map[api.Role]bool{0: false, 1: true, 2: true, 3: false, 4: false} {
		p := inState(filledPort(true), trans.Disabled, 9)
		p.SelectedRole = to
		b := bridgeOf(true, p)
		if !trans.Step(&b, 0) || b.Ports[0].Learn != goesOn || b.Ports[0].Forward != goesOn || b.Ports[0].Role != to {
			t.Errorf("SelectedRole %d: %+v", to, b.Ports[0])
		}
		if !b.Ports[0].Learning || !b.Ports[0].Forwarding {
			t.Errorf("SelectedRole %d: it has followed: %+v", to, b.Ports[0])
		}
	}
}

// RrWhile becomes the Delay of the times, whatever is sent.
func TestOtherRoleRoot(t *testing.T) {
	for _, x := range oddTimes {
		for _, n := range append(notZero, 0) {
			for _, rstp := range bools {
				p := inState(filledPort(rstp), trans.Designated, api.Designated)
				p.SelectedRole, p.DesignatedTimes, p.RrWhile = api.Root, x, n
				mustStep(t, p, of(becameRoot))
			}
		}
	}
}

// The same role in another state isn't another role.
func TestSameRole(t *testing.T) {
	for _, r := range allRoles {
		for _, s := range noStates {
			mustStep(t, inState(filledPort(true), s, r), nil)
		}
		p := inState(filledPort(true), trans.Disable, r)
		mustStep(t, without(p, learning, forwarding), rested(20, 1))
		mustStep(t, p, nil)
	}
}

// P17.1: Disable and Block

// Whether it rests hangs on what the port does, and not on what it should do.
func TestStill(t *testing.T) {
	for _, base := range bases() {
		for _, r := range allRoles {
			eachOf(base, []flag{learning, forwarding, learn, forward}, func(p api.Port) {
				disable, block := inState(p, trans.Disable, r), inState(p, trans.Block, r)
				if p.Learning || p.Forwarding {
					mustStepAt(t, bridgeOf(true, disable), 0, nil)
					mustStepAt(t, bridgeOf(true, block), 0, nil)
					return
				}
				mustStep(t, disable, rested(20, 1))
				mustStep(t, block, rested(delayOf(block), 5))
			})
		}
	}
}

// What REST sets, whatever it was before.
func TestRestFromDisableAndBlock(t *testing.T) {
	for _, base := range bases() {
		base = without(base, learning, forwarding)
		eachOf(base, []flag{sync, synced, reRoot, sendRSTP, proposed, agree}, func(p api.Port) {
			for _, n := range append(notZero, 0) {
				disable, block := inState(p, trans.Disable, api.Disabled), inState(p, trans.Block, api.Alternate)
				disable.FdWhile, disable.RrWhile = n, n
				block.FdWhile, block.RrWhile = n, n
				mustStepAt(t, bridgeOf(true, p, disable), 1, rested(20, 1))
				mustStepAt(t, bridgeOf(true, p, block), 1, rested(delayOf(block), 5))
			}
		})
	}
}

// Disable takes the Max, Block the Delay, which hangs on SendRSTP.
func TestRestByTimes(t *testing.T) {
	for _, x := range oddTimes {
		for _, rapid := range bools {
			p := without(filledPort(true), learning, forwarding)
			p.SendRSTP = rapid
			disable, block := inState(p, trans.Disable, api.Disabled), inState(p, trans.Block, api.Backup)
			disable.DesignatedTimes, block.DesignatedTimes = x, x
			delay := x.Delay
			if rapid {
				delay = x.Hello
			}
			mustStep(t, disable, rested(x.Max, 1))
			mustStep(t, block, rested(delay, 5))
		}
	}
}

// P17.1: Disabled and Alternate: REST

// atRest returns a port in that state that has nothing to do.
func atRest(base api.Port, s api.State, r api.Role) api.Port {
	p := without(with(inState(base, s, r), synced), sync, reRoot, proposed)
	p.Agree = true
	p.FdWhile, p.RbWhile = 20, 4
	if s == trans.Alternate {
		p.FdWhile = delayOf(p)
	}
	return p
}

// atRestOf are ports in Disabled and in Alternate that have nothing to do, with the seconds for which they rest.
func atRestOf(base api.Port) map[int]api.Port {
	return map[int]api.Port{
		20: atRest(base, trans.Disabled, api.Disabled),
		15: atRest(without(base, sendRSTP), trans.Alternate, api.Alternate),
		2:  atRest(with(base, sendRSTP), trans.Alternate, api.Backup),
	}
}

func TestRestByNothing(t *testing.T) {
	for _, base := range bases() {
		for _, p := range atRestOf(base) {
			mustStep(t, p, nil)
			// A port that rests may still learn or forward, and RrWhile isn't asked.
			eachOf(p, []flag{learning, forwarding, learn, forward}, func(p api.Port) { mustStep(t, p, nil) })
			for _, n := range append(notZero, 0) {
				p.RrWhile = n
				mustStep(t, p, nil)
			}
		}
	}
}

func TestRestByFdWhile(t *testing.T) {
	for _, base := range bases() {
		for seconds, p := range atRestOf(base) {
			for _, n := range []int{0, 1, 2, 3, 14, 15, 16, 19, 20, 21, -2, -15, -20, least, most} {
				p.FdWhile = n
				if n == seconds {
					mustStep(t, p, nil)
				} else {
					mustStep(t, p, rested(seconds, p.Prt))
				}
			}
		}
	}
}

func TestRestByFlags(t *testing.T) {
	for _, base := range bases() {
		for seconds, p := range atRestOf(base) {
			want := rested(seconds, p.Prt)
			mustStep(t, with(p, sync), want)
			mustStep(t, with(p, reRoot), want)
			mustStep(t, without(p, synced), want)
			eachOf(p, []flag{sync, reRoot, synced}, func(p api.Port) {
				for _, n := range []int{0, seconds} {
					p.FdWhile = n
					if n == seconds && p.Synced && !p.Sync && !p.ReRoot {
						mustStep(t, p, nil)
					} else {
						mustStep(t, p, want)
					}
				}
			})
		}
	}
}

// All combinations in Disabled, for all roles: nothing but REST is done there, and its flags for a proposal don't matter.
func TestDisabled(t *testing.T) {
	for _, base := range bases() {
		for _, r := range allRoles {
			p := atRest(base, trans.Disabled, r)
			eachOf(p, []flag{sync, reRoot, synced, proposed, agree, sendRSTP}, func(p api.Port) {
				for _, n := range []int{20, 15, 2, 0} {
					p.FdWhile, p.RbWhile = n, n
					var want change
					if unrested(p, 20) {
						want = rested(20, 1)
					}
					mustStepAt(t, bridgeOf(true, base, p), 1, want)
				}
			})
		}
	}
}

func TestRestByOddTimes(t *testing.T) {
	for _, x := range oddTimes {
		for _, rapid := range bools {
			p := filledPort(true)
			p.SendRSTP = rapid
			p.DesignatedTimes = x
			for s, seconds := range map[api.State]int{trans.Disabled: x.Max, trans.Alternate: delayOf(p)} {
				p = atRest(p, s, api.Alternate)
				p.DesignatedTimes = x
				for _, n := range []int{x.Max, x.Delay, x.Hello, seconds - 1, seconds + 1} {
					p.FdWhile = n
					if n == seconds {
						mustStep(t, p, nil)
					} else {
						mustStep(t, p, rested(seconds, s))
					}
				}
			}
		}
	}
}

// P17.1: Root

// calm is a port beside others for which the bridge is Synced, and that wasn't the root port lately.
var calm = api.Port{Selected: true, Role: 2, SelectedRole: 2, Synced: true}

// unsynced are ports for which the bridge isn't Synced.
var unsynced = []api.Port{
	{Role: 2, SelectedRole: 2, Synced: true},
	{Selected: true, UpdtInfo: true, Role: 2, SelectedRole: 2, Synced: true},
	{Selected: true, Role: 2, SelectedRole: 3, Synced: true},
	{Selected: true, Role: 1, SelectedRole: 2, Synced: true},
	{Selected: true, Role: 2, SelectedRole: 2},
	{Selected: true},
	{},
}

// lately returns a port such as calm that was the root port for these seconds from now.
func lately(seconds int) api.Port {
	p := calm
	p.RrWhile = seconds
	return p
}

// sides are the ports that a port may have beside itself.
func sides() [][]api.Port {
	l := [][]api.Port{{}, {calm}, {calm, calm}, {calm, lately(1)}, {lately(-1), lately(3)}}
	for _, p := range unsynced {
		l = append(l, []api.Port{p}, []api.Port{calm, p}, []api.Port{p, lately(2)})
	}
	return l
}

// asRoot returns a port in Root that has nothing to do.
func asRoot(base api.Port) api.Port {
	p := inState(base, trans.Root, api.Root)
	p = without(with(p, agree, learn, forward), proposed, reRoot)
	p.RrWhile = 15
	return p
}

func TestRootByNothing(t *testing.T) {
	for _, base := range bases() {
		for _, others := range sides() {
			for _, rstp := range bools {
				eachOf(asRoot(base), []flag{sync, synced, sendRSTP, learning, forwarding}, func(p api.Port) {
					for _, n := range []int{0, 1, 15, -1} {
						p.FdWhile, p.RbWhile = n, n
						mustStepAmong(t, rstp, p, others, nil)
					}
				})
			}
		}
	}
}

// The state decides, whatever the role.
func TestRootOfAnyRole(t *testing.T) {
	for _, r := range allRoles {
		p := asRoot(filledPort(true))
		p.Role, p.SelectedRole = r, r
		mustStepAmong(t, true, p, []api.Port{calm}, nil)
		mustStepAmong(t, true, with(p, reRoot), []api.Port{calm}, of(hasReRooted))
		mustStepAmong(t, true, with(p, proposed), []api.Port{calm}, of(agreedAsRoot))
		mustStepAmong(t, true, without(p, agree), []api.Port{calm}, of(agreedAsRoot))
		if r == api.Root {
			mustStepAmong(t, true, without(p, agree, synced), []api.Port{calm}, of(agreedAsRoot))
		} else {
			mustStepAmong(t, true, without(p, agree, synced), []api.Port{calm}, nil)
		}
	}
}

// mustAgree makes the steps by Proposed and Agree, among ports that are Synced, and others.
func mustAgree(t *testing.T, p api.Port, agrees change) {
	t.Helper()
	for _, rstp := range bools {
		for _, others := range sides() {
			mustStepAmong(t, rstp, without(with(p, proposed), agree), others, passedOn)
			mustStepAmong(t, rstp, with(p, proposed, agree), others, agrees)
			mustStepAmong(t, rstp, without(with(p, agree), proposed), others, nil)
		}
		for _, others := range [][]api.Port{{}, {calm}, {lately(1)}, {calm, calm, lately(-1)}} {
			mustStepAmong(t, rstp, without(p, proposed, agree), others, agrees)
		}
		for _, q := range unsynced {
			for _, others := range [][]api.Port{{q}, {calm, q}, {q, lately(1), calm}} {
				mustStepAmong(t, rstp, without(p, proposed, agree), others, nil)
			}
		}
	}
}

func TestRootAgrees(t *testing.T) {
	for _, base := range bases() {
		eachOf(asRoot(base), []flag{sync, synced, newInfo}, func(p api.Port) { mustAgree(t, p, of(agreedAsRoot)) })
	}
}

// Neither the first nor the second transition hangs on what the port does.
func TestRootAgreesBeforeItForwards(t *testing.T) {
	eachOf(asRoot(api.Port{}), []flag{learn, forward, reRoot, learning, forwarding}, func(p api.Port) {
		for _, n := range []int{0, 1} {
			p.FdWhile, p.RbWhile, p.RrWhile = n, n, n
			mustStepAmong(t, true, without(with(p, proposed), agree), []api.Port{calm}, passedOn)
			mustStepAmong(t, true, without(p, proposed, agree), []api.Port{calm}, of(agreedAsRoot))
			mustStepAmong(t, true, with(p, proposed, agree), []api.Port{calm}, of(agreedAsRoot))
		}
	})
}

// By Forward and ReRoot, where it may not begin to forward yet.
func TestRootReRoots(t *testing.T) {
	for _, base := range bases() {
		for _, others := range sides() {
			p := asRoot(base)
			p.FdWhile = 9
			eachOf(p, []flag{learn, sync, sendRSTP}, func(p api.Port) {
				mustStepAmong(t, false, without(p, forward, reRoot), others, reRooted)
				mustStepAmong(t, false, without(with(p, reRoot), forward), others, nil)
				mustStepAmong(t, false, without(with(p, forward), reRoot), others, nil)
				mustStepAmong(t, false, with(p, forward, reRoot), others, of(hasReRooted))
			})
		}
	}
}

// It asks for that before it learns.
func TestRootReRootsFirst(t *testing.T) {
	for _, n := range []int{0, 5} {
		p := without(asRoot(filledPort(true)), forward, reRoot)
		p.FdWhile, p.RrWhile, p.RbWhile = n, n, 0
		mustStepAmong(t, true, p, []api.Port{calm, calm}, reRooted)
		mustStepAmong(t, true, without(p, learn), []api.Port{calm, calm}, reRooted)
	}
}

// toLearn, and toForward, are root ports that do so if SOON.
func toLearn(base api.Port) api.Port { return without(with(asRoot(base), reRoot), learn, forward) }

func toForward(base api.Port) api.Port { return without(with(asRoot(base), reRoot), forward) }

// mustBegin holds that both do so, or that both don't.
func mustBegin(t *testing.T, rstp bool, set func(p *api.Port), others []api.Port, begins bool) {
	t.Helper()
	for _, base := range bases() {
		for _, rapid := range bools {
			base.SendRSTP = rapid
			p, q := toLearn(base), toForward(base)
			set(&p)
			set(&q)
			if begins {
				mustStepAmong(t, rstp, p, others, of(learnt))
				mustStepAmong(t, rstp, q, others, of(forwards))
			} else {
				mustStepAmong(t, rstp, p, others, nil)
				mustStepAmong(t, rstp, q, others, nil)
			}
		}
	}
}

// SOON by FdWhile alone, where each of the other three conditions is missing, one or all.
func TestSoonByFdWhile(t *testing.T) {
	for _, rstp := range bools {
		for _, rb := range []int{0, 1, -1} {
			for _, others := range sides() {
				mustBegin(t, rstp, func(p *api.Port) { p.FdWhile, p.RbWhile = 0, rb }, others, true)
			}
		}
	}
	for _, n := range notZero {
		mustBegin(t, false, func(p *api.Port) { p.FdWhile, p.RbWhile = n, 0 }, []api.Port{calm}, false)
	}
}

// SOON by the three together, and each of them missing once.
func TestSoonByTheOtherThree(t *testing.T) {
	for _, n := range notZero {
		for _, others := range [][]api.Port{{}, {calm}, {calm, {}, calm}} {
			mustBegin(t, true, func(p *api.Port) { p.FdWhile, p.RbWhile = n, 0 }, others, true)
			mustBegin(t, false, func(p *api.Port) { p.FdWhile, p.RbWhile = n, 0 }, others, false)
			mustBegin(t, true, func(p *api.Port) { p.FdWhile, p.RbWhile = 1, n }, others, false)
		}
		for _, others := range [][]api.Port{{lately(n)}, {lately(n), calm}, {calm, {}, lately(n)}, {lately(n), lately(-n)}} {
			mustBegin(t, true, func(p *api.Port) { p.FdWhile, p.RbWhile = 1, 0 }, others, false)
		}
	}
}

// That this port itself is a root port lately makes no difference.
func TestSoonWhateverItsOwnRrWhile(t *testing.T) {
	for _, n := range append(notZero, 0) {
		set := func(p *api.Port) { p.FdWhile, p.RbWhile, p.RrWhile = 1, 0, n }
		mustBegin(t, true, set, []api.Port{calm}, true)
	}
}

// What it waits for behind learning is the Delay of layer 13.
func TestRootByTimes(t *testing.T) {
	for _, x := range oddTimes {
		for _, rapid := range bools {
			p, q := toLearn(filledPort(rapid)), toForward(filledPort(rapid))
			p.DesignatedTimes, q.DesignatedTimes = x, x
			p.FdWhile, q.FdWhile = 0, 0
			mustStepAmong(t, false, p, []api.Port{calm}, of(learnt))
			mustStepAmong(t, false, q, []api.Port{calm}, of(forwards))
		}
	}
}

// It ceases to be ReRoot behind all but the last transition.
func TestRootHasReRooted(t *testing.T) {
	for _, base := range bases() {
		for _, n := range []int{0, 14, 15, 16} {
			p := with(asRoot(base), reRoot)
			p.RrWhile, p.FdWhile, p.RbWhile = n, n, n
			mustStepAmong(t, true, p, []api.Port{calm}, of(hasReRooted))
			// It forwards without having learnt: then it learns ahead of that, if it may.
			p.FdWhile = 0
			mustStepAmong(t, true, without(p, learn), []api.Port{calm}, of(learnt))
			p.FdWhile = 3
			mustStepAmong(t, false, without(p, learn), []api.Port{calm}, of(hasReRooted))
		}
	}
}

// RrWhile is held at the Delay of the times, whatever is sent, and whether the port forwards or not.
func TestRootHoldsRrWhile(t *testing.T) {
	for _, base := range bases() {
		for _, x := range oddTimes {
			eachOf(asRoot(base), []flag{sendRSTP, sync}, func(p api.Port) {
				p.DesignatedTimes = x
				for _, n := range []int{x.Delay, x.Delay - 1, x.Delay + 1, -x.Delay, 0, x.Hello, x.Max} {
					p.RrWhile = n
					var want change
					if n != x.Delay {
						want = of(isRootLately)
					}
					mustStepAmong(t, true, p, []api.Port{{}}, want)
					p.FdWhile = 3
					mustStepAmong(t, false, without(with(p, reRoot), forward), []api.Port{calm}, want)
					mustStepAmong(t, false, without(with(p, reRoot), forward, learn), []api.Port{calm}, want)
				}
			})
		}
	}
}

// All conditions hold at first; the transitions are made in their order.
func TestRootInOrder(t *testing.T) {
	p := without(with(asRoot(api.Port{}), proposed, sendRSTP), agree, learn, forward)
	p.RrWhile, p.FdWhile, p.RbWhile = 3, 0, 0
	b := bridgeOf(true, calm, p, calm)
	for _, do := range []change{passedOn, of(agreedAsRoot), reRooted, of(learnt), of(forwards), of(hasReRooted), of(isRootLately), nil} {
		mustStepAt(t, b, 1, do)
		trans.Step(&b, 1)
	}
}

// All combinations of what the transitions in Root ask for.
func TestRoot(t *testing.T) {
	flags := []flag{proposed, agree, forward, reRoot, learn, sync, synced, sendRSTP}
	for k, base := range bases() {
		for _, others := range [][]api.Port{{calm}, {unsynced[4]}, {calm, lately(6)}, {unsynced[0], lately(6)}} {
			eachOf(asRoot(base), flags, func(p api.Port) {
				for bits := range 16 {
					p.FdWhile, p.RbWhile, p.RrWhile = 7*(bits&1), 4*(bits>>1&1), 14+bits>>2&1
					i := (k + bits) % (len(others) + 1)
					b := among(bits>>3 == 1, p, i, others...)
					mustStepAt(t, b, i, first(inRoot, b, i))
				}
			})
		}
	}
}

// P17.1: Designated

// asDesignated returns a port in Designated that has nothing to do.
func asDesignated(base api.Port) api.Port {
	p := inState(base, trans.Designated, api.Designated)
	p = without(with(p, learn, forward, synced, learning, forwarding), sync, reRoot, disputed, agreed, operEdge, proposing)
	p.FdWhile, p.RrWhile = 7, 9
	return p
}

func TestDesignatedByNothing(t *testing.T) {
	flags := []flag{agreed, operEdge, proposing, proposed, agree, learning, forwarding, sendRSTP, pointToPoint, newInfo}
	for _, base := range bases() {
		eachOf(asDesignated(base), flags, func(p api.Port) {
			for _, n := range []int{0, 1, -1, 15} {
				p.FdWhile, p.RrWhile, p.RbWhile = n, n, n
				mustStepAt(t, bridgeOf(true, calm, p), 1, nil)
			}
		})
		for _, r := range allRoles {
			p := asDesignated(base)
			p.Role, p.SelectedRole = r, r
			mustStep(t, p, nil)
			mustStep(t, with(p, disputed), of(stopped))
		}
	}
}

// It proposes only if none of the four is set.
func TestDesignatedProposes(t *testing.T) {
	for _, base := range bases() {
		// A port that has to wait for the former root port: nothing else may be done with it.
		p := with(without(asDesignated(base), forward, learn), reRoot)
		mustStep(t, p, of(proposes))
		mustStep(t, with(p, agreed), nil)
		mustStep(t, with(p, proposing), nil)
		mustStep(t, with(p, operEdge), nil)
		mustStep(t, with(p, forward), of(stopped))
		mustStep(t, asDesignated(base), nil)
		mustStep(t, without(asDesignated(base), forward), of(proposes))
		mustStep(t, without(asDesignated(base), forward, learn), of(proposes))
	}
}

// It proposes ahead of all else.
func TestDesignatedProposesFirst(t *testing.T) {
	p := without(asDesignated(filledPort(true)), forward)
	eachOf(p, []flag{learn, synced, sync, reRoot, disputed, learning, forwarding}, func(p api.Port) {
		for _, n := range []int{0, 1} {
			p.FdWhile, p.RrWhile = n, n
			mustStep(t, p, of(proposes))
		}
	})
}

// For how long it waits for an answer hangs on PointToPoint.
func TestDesignatedEdge(t *testing.T) {
	for _, base := range bases() {
		for _, x := range oddTimes {
			for _, n := range []int{0, 3, 20, -1} {
				eachOf(without(asDesignated(base), forward), []flag{pointToPoint, sendRSTP, newInfo}, func(p api.Port) {
					p.DesignatedTimes, p.EdgeDelayWhile = x, n
					mustStep(t, p, of(proposes))
				})
			}
		}
	}
}

// Each of the conditions under which it becomes Synced, alone.
func TestDesignatedBecomesSynced(t *testing.T) {
	for _, base := range bases() {
		for _, n := range append(notZero, 0) {
			p := without(asDesignated(base), synced)
			p.RrWhile = n
			mustStep(t, p, nil)
			mustStep(t, without(p, learning), nil)
			mustStep(t, without(p, forwarding), nil)
			mustStep(t, without(p, learning, forwarding), of(becameSynced))
			mustStep(t, with(p, agreed), of(becameSynced))
			mustStep(t, with(p, operEdge), of(becameSynced))
			mustStep(t, with(p, proposing), nil)
			mustStep(t, with(p, synced, sync), of(becameSynced))
			mustStep(t, with(p, sync), of(stopped))
			mustStep(t, with(p, synced), nil)
		}
	}
}

// If it is Synced, none of the conditions for one that isn't makes it so again.
func TestDesignatedIsSynced(t *testing.T) {
	eachOf(asDesignated(api.Port{}), []flag{learning, forwarding, agreed, operEdge}, func(p api.Port) {
		mustStep(t, p, nil)
		mustStep(t, with(p, sync), of(becameSynced))
		mustStep(t, with(p, sync, reRoot, disputed), of(becameSynced))
	})
}

func TestDesignatedHasReRooted(t *testing.T) {
	for _, base := range bases() {
		for _, n := range append(notZero, 0) {
			p := asDesignated(base)
			p.RrWhile = n
			mustStep(t, p, nil)
			mustStep(t, with(p, operEdge), nil)
			if n == 0 {
				mustStep(t, with(p, reRoot), of(hasReRooted))
				mustStep(t, with(p, reRoot, operEdge, disputed), of(hasReRooted))
				mustStep(t, without(with(p, reRoot, agreed), learn, forward), of(hasReRooted))
			} else {
				mustStep(t, with(p, reRoot), of(stopped))
				mustStep(t, with(p, reRoot, operEdge), nil)
			}
		}
	}
}

// mustBeginIf holds that a port in Designated learns, and forwards, or that it does neither.
func mustBeginIf(t *testing.T, p api.Port, begins bool) {
	t.Helper()
	eachOf(with(p, proposing), []flag{sendRSTP, forwarding}, func(p api.Port) {
		learns, sends := without(p, learn, forward), without(with(p, learn), forward)
		if begins {
			mustStep(t, learns, of(learnt))
			mustStep(t, with(learns, forward), of(learnt))
			mustStep(t, sends, of(forwardsDesignated))
			return
		}
		mustStep(t, learns, nil)
	})
}

// MAY by FdWhile 0, by Agreed and by OperEdge alone, with RrWhile 0 and without ReRoot, and by neither.
func TestMay(t *testing.T) {
	for _, base := range bases() {
		for _, rr := range append(notZero, 0) {
			p := asDesignated(base)
			p.RrWhile = rr
			for _, n := range notZero {
				p.FdWhile = n
				mustBeginIf(t, p, false)
			}
			mustBeginIf(t, with(p, agreed), true)
			mustBeginIf(t, with(p, operEdge), true)
			p.FdWhile = 0
			mustBeginIf(t, p, true)
		}
	}
}

// Not before RrWhile is 0, if ReRoot is set.
func TestMayNotByReRoot(t *testing.T) {
	for _, base := range bases() {
		for _, n := range notZero {
			p := with(asDesignated(base), reRoot)
			p.RrWhile = n
			mustBeginIf(t, with(p, agreed), false)
			mustBeginIf(t, with(p, operEdge), false)
			mustStep(t, without(with(p, operEdge), forward), nil)
			mustStep(t, without(with(p, agreed), forward), of(stopped))
			p.FdWhile = 0
			mustBeginIf(t, p, false)
			mustStep(t, without(with(p, proposing), forward), of(stopped))
		}
	}
}

// Not while Sync is set, and Synced isn't.
func TestMayNotBySync(t *testing.T) {
	for _, base := range bases() {
		p := without(with(asDesignated(base), sync, proposing), synced)
		p.FdWhile = 0
		for _, q := range []api.Port{without(p, learning), without(p, forwarding), p} {
			mustStep(t, without(q, learn, forward), nil)
			mustStep(t, without(q, forward), of(stopped))
			mustStep(t, without(q, learn), of(stopped))
			mustStep(t, without(q, sync, learn), of(learnt))
			mustStep(t, without(q, sync, forward), of(forwardsDesignated))
		}
	}
}

// Learning takes the Delay of layer 13; forwarding takes it for agreed only if RST messages are sent.
func TestDesignatedBegins(t *testing.T) {
	for _, x := range oddTimes {
		for _, base := range bases() {
			eachOf(with(asDesignated(base), proposing), []flag{sendRSTP, agreed, operEdge, disputed}, func(p api.Port) {
				p.DesignatedTimes, p.FdWhile = x, 0
				mustStep(t, without(p, learn), of(learnt))
				mustStep(t, without(p, learn, forward), of(learnt))
				mustStep(t, without(p, forward), of(forwardsDesignated))
			})
		}
	}
}

// Written out, for the four combinations.
func TestDesignatedForwardsAgreed(t *testing.T) {
	for _, rapid := range bools {
		for _, before := range bools {
			p := without(with(asDesignated(api.Port{}), proposing), forward)
			p.SendRSTP, p.Agreed, p.FdWhile = rapid, before, 0
			b := bridgeOf(true, p)
			if !trans.Step(&b, 0) || !b.Ports[0].Forward || b.Ports[0].Agreed != rapid {
				t.Errorf("SendRSTP %v: %+v", rapid, b.Ports[0])
			}
		}
	}
}

// stops are ports in Designated with each of the three reasons to stop.
func stops(base api.Port) []api.Port {
	p := with(asDesignated(base), proposing)
	free := p
	free.RrWhile = 0
	return []api.Port{without(with(p, sync), synced), with(p, reRoot), with(p, disputed), with(free, disputed)}
}

// Each of the reasons, with Learn and Forward, with one of them, and with neither.
func TestDesignatedStops(t *testing.T) {
	for _, base := range bases() {
		for _, p := range stops(base) {
			for _, rapid := range bools {
				p.SendRSTP = rapid
				mustStep(t, p, of(stopped))
				mustStep(t, without(p, forward), of(stopped))
				mustStep(t, without(p, learn), of(stopped))
				mustStep(t, without(p, learn, forward), nil)
			}
		}
	}
}

// An edge port doesn't stop: it is Synced at once, and needn't heed that it is Disputed, nor the former root port.
func TestEdgeDoesNotStop(t *testing.T) {
	for _, base := range bases() {
		l := stops(base)
		mustStep(t, with(l[0], operEdge), of(becameSynced))
		for _, p := range l[1:] {
			mustStep(t, with(p, operEdge), nil)
			mustStep(t, with(p, operEdge, agreed), nil)
		}
		mustStep(t, without(with(l[1], operEdge), learn), nil)
		mustStep(t, without(with(l[1], operEdge), forward), nil)
	}
}

// Each part of a reason alone is none.
func TestDesignatedDoesNotStop(t *testing.T) {
	for _, base := range bases() {
		p := asDesignated(base)
		mustStep(t, without(p, synced), nil)
		mustStep(t, with(p, agreed), nil)
		mustStep(t, with(p, sync), of(becameSynced))
		p.RrWhile = 0
		mustStep(t, p, nil)
		mustStep(t, with(p, reRoot), of(hasReRooted))
	}
}

func TestDesignatedStopsForTheDelay(t *testing.T) {
	for _, x := range oddTimes {
		for _, base := range bases() {
			for _, p := range stops(base) {
				for _, rapid := range bools {
					p.DesignatedTimes, p.SendRSTP = x, rapid
					mustStep(t, p, of(stopped))
				}
			}
		}
	}
}

// mustGo makes these steps one after another; nil: there is no further one.
func mustGo(t *testing.T, p api.Port, changes ...change) {
	t.Helper()
	b := bridgeOf(true, calm, p)
	for _, do := range changes {
		mustStepAt(t, b, 1, do)
		trans.Step(&b, 1)
	}
}

// Several conditions hold at first; the transitions are made in their order.
func TestDesignatedInOrder(t *testing.T) {
	p := with(asDesignated(api.Port{}), sync, reRoot, disputed, sendRSTP)
	p = without(p, synced, learn, forward, learning, forwarding)
	p.FdWhile = 0
	synced, rooted := of(becameSynced), of(hasReRooted)
	// It isn't Agreed, so the fourth transition lets it wait.
	mustGo(t, p, of(proposes), synced, rooted, of(learnt), of(stopped), nil)
	// It is Agreed, and stays so.
	mustGo(t, with(p, agreed), synced, rooted, of(learnt), of(forwardsDesignated), of(stopped), of(learnt), of(forwardsDesignated), nil)
	// It ceases to be Agreed when it forwards.
	mustGo(t, without(with(p, agreed), sendRSTP), synced, rooted, of(learnt), of(forwardsDesignated), of(stopped), of(proposes), nil)
	mustGo(t, with(p, operEdge), synced, rooted, of(learnt), of(forwardsDesignated), nil)
}

// All combinations of what the transitions in Designated ask for.
func TestDesignated(t *testing.T) {
	flags := []flag{forward, agreed, proposing, operEdge, synced, learning, forwarding, sync, reRoot, learn, disputed, sendRSTP}
	for k, base := range bases() {
		eachOf(asDesignated(base), flags, func(p api.Port) {
			for bits := range 4 {
				p.FdWhile, p.RrWhile = 7*(bits&1), 9*(bits>>1)
				p.PointToPoint = bits == 0
				i := (k + bits) % 2
				b := among(bits == 1, p, i, calm)
				mustStepAt(t, b, i, first(inDesignated, b, i))
			}
		})
	}
}

// P17.1: Alternate

func TestAlternateAgrees(t *testing.T) {
	for _, base := range bases() {
		for _, r := range []api.Role{api.Alternate, api.Backup} {
			p := atRest(base, trans.Alternate, r)
			for _, news := range bools {
				p.NewInfo = news
				mustAgree(t, p, of(agreedAsAlternate))
			}
		}
	}
}

// Neither of them hangs on whether it rests, and Sync stays as it is.
func TestAlternateAgreesBeforeItRests(t *testing.T) {
	p := atRest(filledPort(true), trans.Alternate, api.Backup)
	eachOf(p, []flag{sync, reRoot, sendRSTP}, func(p api.Port) {
		for _, n := range []int{0, 1, 2, 4, 15} {
			p.FdWhile, p.RbWhile = n, n
			for _, q := range []api.Port{p, without(p, synced)} {
				mustStepAmong(t, true, without(with(q, proposed), agree), []api.Port{calm}, passedOn)
				mustStepAmong(t, true, with(q, proposed, agree), []api.Port{calm}, of(agreedAsAlternate))
			}
			mustStepAmong(t, true, without(p, proposed, agree), []api.Port{calm}, of(agreedAsAlternate))
		}
	})
	// It isn't a root port, so the bridge is Synced only if it is, too.
	mustStepAmong(t, true, without(p, agree, synced), []api.Port{calm}, rested(2, 5))
}

// RbWhile is held at twice Hello, for Role Backup alone.
func TestBackup(t *testing.T) {
	for _, base := range bases() {
		for _, r := range allRoles {
			for _, n := range append(notZero, 0, 3, 5) {
				for _, rapid := range bools {
					base.SendRSTP = rapid
					p := atRest(base, trans.Alternate, r)
					p.RbWhile = n
					if r == api.Backup && n != 4 {
						mustStep(t, p, of(wasBackup))
					} else {
						mustStep(t, p, nil)
					}
				}
			}
		}
	}
}

func TestBackupByTimes(t *testing.T) {
	for _, x := range oddTimes {
		for _, rapid := range bools {
			p := atRest(filledPort(rapid), trans.Alternate, api.Backup)
			p.DesignatedTimes = x
			p.FdWhile = delayOf(p)
			for _, n := range []int{x.Hello + x.Hello, x.Hello + x.Hello + 1, x.Hello + x.Hello - 1, x.Hello, x.Max, x.Delay, 0} {
				p.RbWhile = n
				if n == x.Hello+x.Hello {
					mustStep(t, p, nil)
				} else {
					mustStep(t, p, of(wasBackup))
				}
			}
		}
	}
}

// All conditions hold at first; the transitions are made in their order.
func TestAlternateInOrder(t *testing.T) {
	p := with(without(atRest(api.Port{}, trans.Alternate, api.Backup), agree), proposed, reRoot)
	p.FdWhile, p.RbWhile = 1, 1
	mustGo(t, p, passedOn, of(agreedAsAlternate), rested(15, 5), of(wasBackup), nil)
	p.Role, p.SelectedRole = api.Alternate, api.Alternate
	mustGo(t, with(p, sendRSTP), passedOn, of(agreedAsAlternate), rested(2, 5), nil)
	// Unless it is Synced, it rests first.
	mustGo(t, without(p, synced), passedOn, rested(15, 5), of(agreedAsAlternate), nil)
}

// All combinations of what the transitions in Alternate ask for.
func TestAlternate(t *testing.T) {
	flags := []flag{proposed, agree, sync, reRoot, synced, sendRSTP}
	for k, base := range bases() {
		for _, r := range allRoles {
			for _, others := range [][]api.Port{{calm}, {unsynced[4]}, {calm, lately(6)}, {unsynced[0], lately(6)}} {
				eachOf(atRest(base, trans.Alternate, r), flags, func(p api.Port) {
					for bits := range 9 {
						p.FdWhile, p.RbWhile = []int{15, 2, 7}[bits%3], []int{4, 3, 0}[bits/3]
						i := (k + bits) % (len(others) + 1)
						b := among(bits%2 == 1, p, i, others...)
						mustStepAt(t, b, i, first(inAlternate, b, i))
					}
				})
			}
		}
	}
}

// P17.1: a state that isn't listed

// Nothing is done there, whatever else is so.
func TestNoState(t *testing.T) {
	flags := []flag{learn, forward, learning, forwarding, proposed, agree, sync, synced, reRoot, agreed, disputed}
	for _, s := range noStates {
		for _, r := range []api.Role{0, 1, 2, 3, 4, 5, -1} {
			eachOf(inState(filledPort(true), s, r), flags, func(p api.Port) {
				mustStepAt(t, bridgeOf(true, calm, p), 1, nil)
			})
		}
	}
}

// P17.1: one after another

// The chapter's example.
func TestStepExample(t *testing.T) {
	b := api.Bridge{Ports: []api.Port{{SelectedRole: api.Designated, Selected: true}}}
	if !trans.Step(&b, 0) || b.Ports[0].Role != api.Designated || b.Ports[0].Prt != trans.Designated {
		t.Errorf("%+v", b)
	}
}

// mustRest makes the steps of a port until there is none, and holds that what it does follows what it should do.
func mustRest(t *testing.T, b *api.Bridge, i int) {
	t.Helper()
	p := &b.Ports[i]
	for range 30 {
		p.Learning, p.Forwarding = p.Learn, p.Forward
		if !trans.Step(b, i) {
			return
		}
	}
	t.Fatalf("port %d doesn't come to rest: %+v", i, *p)
}

// A port takes each role, one after another, and forwards where it should, once what the others do lets it.
func TestOneAfterAnother(t *testing.T) {
	b := api.Bridge{Rstp: true, Ports: []api.Port{
		{DesignatedTimes: usual, SendRSTP: true, PointToPoint: true}, {DesignatedTimes: usual, SendRSTP: true, PointToPoint: true},
	}}
	one, two := &b.Ports[0], &b.Ports[1]
	for i := range b.Ports {
		trans.Start(&b, i)
		b.Ports[i].Selected = true
	}
	for _, x := range []struct {
		name     string
		set      func()
		one, two api.State
		forward  [2]bool
	}{
		{"both begin", func() {}, 1, 1, [2]bool{}},
		{"the first is selected", func() { one.SelectedRole = api.Designated }, 3, 1, [2]bool{}},
		{"the other end agrees", func() { one.Agreed = true }, 3, 1, [2]bool{true, false}},
		{"the second leads to the root", func() { two.SelectedRole = api.Root }, 3, 2, [2]bool{true, true}},
		{"the first tells news", func() { one.Agreed, one.Synced = false, false }, 3, 2, [2]bool{true, true}},
		{"the other end proposes", func() { two.Proposed, two.Agree = true, false }, 3, 2, [2]bool{false, true}},
		{"the first one's delay is over", func() { one.FdWhile = 0 }, 3, 2, [2]bool{false, true}},
		{"the next one's, too", func() { one.FdWhile = 0 }, 3, 2, [2]bool{true, true}},
		{"the second is a backup", func() { two.SelectedRole = api.Backup }, 3, 5, [2]bool{true, false}},
		{"the first leads to the root", func() { one.SelectedRole = api.Root }, 2, 5, [2]bool{true, false}},
		{"the second is designated", func() { two.SelectedRole = api.Designated }, 2, 3, [2]bool{true, false}},
		{"it is an edge", func() { two.OperEdge = true }, 2, 3, [2]bool{true, true}},
		{"nothing is selected any more", func() { one.SelectedRole, two.SelectedRole = 0, 0 }, 1, 1, [2]bool{}},
	} {
		x.set()
		for range 3 {
			mustRest(t, &b, 1)
			mustRest(t, &b, 0)
		}
		if one.Prt != x.one || two.Prt != x.two || [2]bool{one.Forward, two.Forward} != x.forward {
			t.Errorf("%s: Prt %d, %d, Forward %v, %v", x.name, one.Prt, two.Prt, one.Forward, two.Forward)
		}
	}
}
