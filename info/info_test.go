package info_test

import (
	"fmt"
	"math"
	"reflect"
	"slices"
	"testing"

	"catenary/api"
	"catenary/info"
)

// The ends of the seconds that a port may have.
const (
	least = -1 << 31
	most  = 1 << 31
)

// fill sets all that a value is made of to numbers from n on, and to flag; it leaves slices as they are.
func fill(v reflect.Value, n int, flag bool) int {
	switch v.Kind() {
	case reflect.Struct:
		for i := range v.NumField() {
			n = fill(v.Field(i), n, flag)
		}
		return n
	case reflect.Slice:
		return n
	case reflect.Bool:
		v.SetBool(flag)
	case reflect.Int:
		v.SetInt(int64(n))
	default:
		v.SetUint(uint64(n))
	}
	return n + 1
}

// filledPort returns a port in which no number is zero, no two are equal, and each flag is the same.
func filledPort(flag bool) api.Port {
	var p api.Port
	fill(reflect.ValueOf(&p).Elem(), 40, flag)
	return p
}

// bases are ports whose other fields shall make no difference, and stay as they are.
func bases() []api.Port {
	return []api.Port{{}, filledPort(false), filledPort(true)}
}

// bridgeOf returns a bridge with these ports, in which nothing else is zero.
func bridgeOf(rstp bool, ports ...api.Port) api.Bridge {
	var b api.Bridge
	fill(reflect.ValueOf(&b).Elem(), 200, true)
	b.Rstp, b.Ports = rstp, ports
	return b
}

// copied returns a bridge that shares nothing with b.
func copied(b api.Bridge) api.Bridge {
	b.Ports = slices.Clone(b.Ports)
	return b
}

func mustBe(t *testing.T, what string, got, want api.Bridge) {
	t.Helper()
	for i := range min(len(got.Ports), len(want.Ports)) {
		if got.Ports[i] != want.Ports[i] {
			t.Fatalf("%s: port %d is\n%+v, not\n%+v", what, i, got.Ports[i], want.Ports[i])
		}
	}
	if !reflect.DeepEqual(got, want) {
		t.Fatalf("%s: %+v, not %+v", what, got, want)
	}
}

// step is a function that makes a machine's next transition.
type step struct {
	name string
	by   func(b *api.Bridge, i int) bool
}

var stepping = step{"Step", info.Step}

// starting is Start as a step that always is made.
var starting = step{"Start", func(b *api.Bridge, i int) bool {
	info.Start(b, i)
	return true
}}

// change is what a transition makes of a port; nil: there is no transition.
type change func(p *api.Port)

// mustStepAt makes a step of port i, and holds that it does what it should, and nothing else.
func mustStepAt(t *testing.T, s step, b api.Bridge, i int, want change) {
	t.Helper()
	before, after := copied(b), copied(b)
	if want != nil {
		want(&after.Ports[i])
	}
	if got := s.by(&b, i); got != (want != nil) {
		t.Fatalf("%s of port %d of %+v returns %v", s.name, i, before, got)
	}
	if reflect.DeepEqual(b, after) {
		return
	}
	mustBe(t, fmt.Sprintf("%s of port %d, which was\n%+v", s.name, i, before.Ports[i]), b, after)
}

// mustStep makes a step of a port alone, and at each of three places, among ports that are empty, filled, or such as itself.
func mustStep(t *testing.T, s step, rstp bool, p api.Port, want change) {
	t.Helper()
	mustStepAt(t, s, bridgeOf(rstp, p), 0, want)
	for i := range 3 {
		ports := []api.Port{{}, filledPort(true), p}
		ports[i] = p
		mustStepAt(t, s, bridgeOf(rstp, ports...), i, want)
	}
}

// mustStepOfBoth makes it in bridges of both protocols, for which it makes no difference.
func mustStepOfBoth(t *testing.T, p api.Port, want change) {
	t.Helper()
	for _, rstp := range bools {
		mustStep(t, stepping, rstp, p, want)
	}
}

// flag is where a port has one of its flags.
type flag func(p *api.Port) *bool

func agree(p *api.Port) *bool        { return &p.Agree }
func agreed(p *api.Port) *bool       { return &p.Agreed }
func disputed(p *api.Port) *bool     { return &p.Disputed }
func enabled(p *api.Port) *bool      { return &p.Enabled }
func newInfo(p *api.Port) *bool      { return &p.NewInfo }
func pointToPoint(p *api.Port) *bool { return &p.PointToPoint }
func proposed(p *api.Port) *bool     { return &p.Proposed }
func proposing(p *api.Port) *bool    { return &p.Proposing }
func rcvdMsg(p *api.Port) *bool      { return &p.RcvdMsg }
func rcvdTc(p *api.Port) *bool       { return &p.RcvdTc }
func rcvdTcAck(p *api.Port) *bool    { return &p.RcvdTcAck }
func rcvdTcn(p *api.Port) *bool      { return &p.RcvdTcn }
func reselect(p *api.Port) *bool     { return &p.Reselect }
func selected(p *api.Port) *bool     { return &p.Selected }
func synced(p *api.Port) *bool       { return &p.Synced }
func updtInfo(p *api.Port) *bool     { return &p.UpdtInfo }

// eachOf calls f for the port with all combinations of these flags.
func eachOf(p api.Port, flags []flag, f func(p api.Port)) {
	for bits := range 1 << len(flags) {
		for k, of := range flags {
			*of(&p) = bits>>k&1 != 0
		}
		f(p)
	}
}

// with returns the port with these flags set.
func with(p api.Port, set ...flag) api.Port {
	for _, of := range set {
		*of(&p) = true
	}
	return p
}

// without returns the port with these flags not set.
func without(p api.Port, unset ...flag) api.Port {
	for _, of := range unset {
		*of(&p) = false
	}
	return p
}

var (
	bools = []bool{false, true}
	// noMessages are the kinds of messages without a role: a TCN, none, and numbers that aren't any.
	noMessages = []api.Kind{api.TCN, api.NoBPDU, -1, 4, 40, -api.RST, math.MinInt, math.MaxInt}
	// infos are where a vector is from, and numbers that aren't listed.
	infos = []api.Info{api.InfoDisabled, api.Aged, api.Mine, api.Received, -1, 4, 40, math.MinInt, math.MaxInt}
	// notZero are seconds that aren't 0.
	notZero = []int{1, 2, 6, 20, -1, -6, least, most}
	// notPim are the states that aren't listed, below and above.
	notPim = []api.State{-1, -2, 3, 4, 40, least, most, math.MinInt, math.MaxInt}
	allPim = append([]api.State{0, 1, 2}, notPim...)
)

// The roles in the flags of an RST, written out.
const (
	alternate  = 4
	root       = 8
	designated = 12
)

// allFlags are those of a message that aren't its role.
var allFlags = []byte{1, 2, 16, 32, 64, 128}

// eachFlags calls f with all combinations of a message's flags.
func eachFlags(role byte, f func(flags byte)) {
	for bits := range 1 << len(allFlags) {
		flags := role
		for k, x := range allFlags {
			if bits>>k&1 != 0 {
				flags |= x
			}
		}
		f(flags)
	}
}

// held is the vector that a port has, with the times heldTimes; heldUnits are those in a message.
var (
	held      = api.Vector{Root: 0x8000_0000_0000_0005, Cost: 20000, Bridge: 0x8000_0000_0000_0007, Port: 0x8003}
	heldTimes = api.Times{Age: 1, Max: 20, Hello: 2, Delay: 15}
	heldUnits = units{256, 5120, 512, 3840}
	// otherUnits are times that aren't heldTimes.
	otherUnits = units{512, 5120, 512, 3840}
)

// units are a message's times.
type units struct{ age, most, hello, delay uint16 }

// message returns one that has these parts.
func message(kind api.Kind, flags byte, v api.Vector, u units) api.BPDU {
	return api.BPDU{Kind: kind, Flags: flags, Vector: v, Age: u.age, Max: u.most, Hello: u.hello, Delay: u.delay}
}

// at returns the port with the vector and the times that are held, from there.
func at(base api.Port, from api.Info) api.Port {
	base.Vector, base.PortTimes, base.InfoIs = held, heldTimes, from
	return base
}

// toHear returns the port in the state Current, up, and with this message to hear.
func toHear(base api.Port, from api.Info, m api.BPDU) api.Port {
	p := with(without(at(base, from), updtInfo), enabled, rcvdMsg)
	p.Pim, p.Msg = info.Current, m
	return p
}

// Vectors of messages, by what they are to the one that is held.

// superior are better ones from other sources.
var superior = []api.Vector{
	{Root: 0x8000_0000_0000_0004, Cost: 90000, Bridge: 0x9000_0000_0000_0099, Port: 0x9009},
	{Root: 0x7000_0000_0000_0005, Cost: 20000, Bridge: 0x8000_0000_0000_0008, Port: 0x8003},
	{Root: 0x8000_0000_0000_0005, Cost: 19999, Bridge: 0x9000_0000_0000_0099, Port: 0x9009},
	{Root: 0x8000_0000_0000_0005, Cost: 0, Bridge: 0x8000_0000_0000_0007, Port: 0x8004},
	{Root: 0x8000_0000_0000_0005, Cost: 20000, Bridge: 0x8000_0000_0000_0006, Port: 0x9009},
	{Root: 0x8000_0000_0000_0005, Cost: 20000, Bridge: 0x8000_0000_0000_0007, Port: 0x8002},
	{},
}

// superiorFromThere are better ones from the same source.
var superiorFromThere = []api.Vector{
	{Root: 0x8000_0000_0000_0004, Cost: 20000, Bridge: 0x8000_0000_0000_0007, Port: 0x8003},
	{Root: 0x8000_0000_0000_0005, Cost: 19999, Bridge: 0x8000_0000_0000_0007, Port: 0x8003},
	{Root: 0x8000_0000_0000_0005, Cost: 20000, Bridge: 0x7000_0000_0000_0007, Port: 0x8003},
	{Root: 0x8000_0000_0000_0005, Cost: 20000, Bridge: 0x8000_0000_0000_0007, Port: 0x7003},
}

// worseFromThere are worse ones from the same source: they are Superior all the same.
var worseFromThere = []api.Vector{
	{Root: 0x8000_0000_0000_0006, Cost: 20000, Bridge: 0x8000_0000_0000_0007, Port: 0x8003},
	{Root: 0x8000_0000_0000_0005, Cost: 20001, Bridge: 0x8000_0000_0000_0007, Port: 0x8003},
	{Root: 0x8000_0000_0000_0005, Cost: 20000, Bridge: 0x9000_0000_0000_0007, Port: 0x8003},
	{Root: 0x8000_0000_0000_0005, Cost: 20000, Bridge: 0x8000_0000_0000_0007, Port: 0x9003},
	{Root: 0x9000_0000_0000_0000, Cost: 0, Bridge: 0x0000_0000_0000_0007, Port: 0x0003},
}

// inferior are worse ones from other sources.
var inferior = []api.Vector{
	{Root: 0x8000_0000_0000_0006, Cost: 0, Bridge: 0x1000_0000_0000_0001, Port: 0x1001},
	{Root: 0x8000_0000_0000_0006, Cost: 20000, Bridge: 0x8000_0000_0000_0007, Port: 0x8002},
	{Root: 0x8000_0000_0000_0005, Cost: 20001, Bridge: 0x1000_0000_0000_0001, Port: 0x8003},
	{Root: 0x8000_0000_0000_0005, Cost: 20000, Bridge: 0x8000_0000_0000_0008, Port: 0x8003},
	{Root: 0x8000_0000_0000_0005, Cost: 20000, Bridge: 0x8000_0000_0000_0008, Port: 0x1001},
	{Root: 0x8000_0000_0000_0005, Cost: 20000, Bridge: 0x8000_0000_0000_0007, Port: 0x8004},
}

// better are all that are better, and worse all that are worse, whoever sends them.
var (
	better = slices.Concat(superior, superiorFromThere)
	worse  = slices.Concat(inferior, worseFromThere)
)

// What the transitions set, written out.

func disabled(p *api.Port) {
	p.RcvdMsg = false
	p.Proposing = false
	p.Proposed = false
	p.Agree = false
	p.Agreed = false
	p.RcvdInfoWhile = 0
	p.InfoIs = 0
	p.Reselect = true
	p.Selected = false
	p.Pim = 0
}

func aged(p *api.Port) {
	p.InfoIs = 1
	p.Reselect = true
	p.Selected = false
	p.Pim = 1
}

// updated returns what UPDATE sets in a port, where BetterOrSame holds, and where it doesn't.
func updated(same bool) change {
	return func(p *api.Port) {
		p.Proposing = false
		p.Proposed = false
		if !same {
			p.Agreed = false
		}
		if !p.Agreed {
			p.Synced = false
		}
		p.Vector = p.DesignatedVector
		p.PortTimes = p.DesignatedTimes
		p.UpdtInfo = false
		p.InfoIs = 2
		p.NewInfo = true
		p.Pim = 2
	}
}

// heard returns what HEAR sets by the news and by the message's flags, where its times are those.
func heard(news api.News, more change, seconds api.Times) change {
	return func(p *api.Port) {
		p.RcvdInfo = news
		p.MsgVector = p.Msg.Vector
		p.MsgTimes = seconds
		if more != nil {
			more(p)
		}
		p.RcvdMsg = false
	}
}

// proposes sets what PROPOSE and FLAGS do.
func proposes(p *api.Port) {
	if p.Msg.Kind == 3 && slices.Contains(flagsOf(p.Msg), 2) {
		p.Proposed = true
	}
	tells(p)
}

// tells sets what FLAGS does.
func tells(p *api.Port) {
	l := flagsOf(p.Msg)
	p.RcvdTc = p.RcvdTc || slices.Contains(l, 1)
	p.RcvdTcAck = p.RcvdTcAck || slices.Contains(l, 128)
}

// flagsOf returns a message's flags as a list.
func flagsOf(m api.BPDU) []byte {
	return slices.DeleteFunc(slices.Clone(allFlags), func(x byte) bool { return m.Flags/x%2 == 0 })
}

// takenOver returns what a Superior message sets, where its hello is that of the times and they aren't too old.
func takenOver(same bool) change {
	return func(p *api.Port) {
		p.Agreed = false
		p.Proposing = false
		proposes(p)
		if !same {
			p.Agree = false
		}
		p.Vector = p.MsgVector
		p.PortTimes = p.MsgTimes
		p.RcvdInfoWhile = lives(p.PortTimes)
		p.InfoIs = 3
		p.Reselect = true
		p.Selected = false
	}
}

func repeated(p *api.Port) {
	proposes(p)
	p.RcvdInfoWhile = lives(p.PortTimes)
}

func contradicted(p *api.Port) {
	if p.Msg.Kind == 3 && slices.Contains(flagsOf(p.Msg), 16) {
		p.Disputed = true
		p.Agreed = false
	}
}

// answered returns what the message of a root port or an alternate one sets.
func answered(rstp bool) change {
	return func(p *api.Port) {
		p.Agreed = false
		if rstp && p.PointToPoint && slices.Contains(flagsOf(p.Msg), 64) {
			p.Agreed = true
			p.Proposing = false
		}
		tells(p)
	}
}

func lives(t api.Times) int {
	if t.Age < t.Max {
		return t.Hello + t.Hello + t.Hello
	}
	return 0
}

// P15.1: the numbers of the states

func TestStates(t *testing.T) {
	got := []api.State{info.Disabled, info.Aged, info.Current}
	if want := []api.State{0, 1, 2}; !slices.Equal(got, want) {
		t.Errorf("%v", got)
	}
}

// P15.1: News

// mustTell holds what the message tells the port, and that asking changes nothing.
func mustTell(t *testing.T, p api.Port, want api.News) {
	t.Helper()
	before := p
	if got := info.News(&p); got != want {
		t.Fatalf("News of %+v to %+v from %v: %v, not %v", p.Msg, p.Vector, p.InfoIs, got, want)
	}
	if p != before {
		t.Fatalf("News changes\n%+v to\n%+v", before, p)
	}
}

// mustTellAll holds it for all vectors, from everywhere, by whether the times are those of the port.
func mustTellAll(t *testing.T, kind api.Kind, flags byte, vectors []api.Vector, u units, want func(from api.Info) api.News) {
	t.Helper()
	for _, base := range bases() {
		for _, from := range infos {
			for _, v := range vectors {
				p := at(base, from)
				p.Msg = message(kind, flags, v, u)
				mustTell(t, p, want(from))
			}
		}
	}
}

// always is news that is the same for all.
func always(n api.News) func(api.Info) api.News {
	return func(api.Info) api.News { return n }
}

// whenReceived is Repeated, if the port's vector is from there.
func whenReceived(from api.Info) api.News {
	if from == api.Received {
		return api.Repeated
	}
	return api.Other
}

// A Config is of a designated port, whatever flags it has; an RST by its flags.
func TestNewsOfDesignated(t *testing.T) {
	mustTellOfDesignated := func(kind api.Kind, flags byte) {
		for _, u := range []units{heldUnits, otherUnits, {}} {
			for _, l := range [][]api.Vector{superior, superiorFromThere, worseFromThere} {
				mustTellAll(t, kind, flags, l, u, always(api.Superior))
			}
			mustTellAll(t, kind, flags, inferior, u, always(api.Inferior))
		}
		mustTellAll(t, kind, flags, []api.Vector{held}, otherUnits, always(api.Superior))
		mustTellAll(t, kind, flags, []api.Vector{held}, units{}, always(api.Superior))
		mustTellAll(t, kind, flags, []api.Vector{held}, heldUnits, whenReceived)
	}
	for _, role := range []byte{0, alternate, root, designated} {
		mustTellOfDesignated(api.Config, role)
		mustTellOfDesignated(api.Config, role|1|2|16|32|64|128)
	}
	eachFlags(designated, func(flags byte) { mustTellOfDesignated(api.RST, flags) })
}

func TestNewsOfRootOrAlternate(t *testing.T) {
	for _, role := range []byte{alternate, root} {
		eachFlags(role, func(flags byte) {
			for _, u := range []units{heldUnits, otherUnits, {}} {
				mustTellAll(t, api.RST, flags, better, u, always(api.Other))
				mustTellAll(t, api.RST, flags, []api.Vector{held}, u, always(api.NotDesignated))
				mustTellAll(t, api.RST, flags, worse, u, always(api.NotDesignated))
			}
		})
	}
}

// A message without a role tells nothing.
func TestNewsWithoutRole(t *testing.T) {
	vectors := slices.Concat(better, []api.Vector{held}, worse)
	for _, u := range []units{heldUnits, otherUnits} {
		eachFlags(0, func(flags byte) { mustTellAll(t, api.RST, flags, vectors, u, always(api.Other)) })
		for _, kind := range noMessages {
			for _, flags := range []byte{0, alternate, root, designated, 255} {
				mustTellAll(t, kind, flags, vectors, u, always(api.Other))
			}
		}
	}
}

// The times of an equal vector, in whole seconds: each of them alone.
func TestNewsByTimes(t *testing.T) {
	for _, x := range []struct {
		u    units
		want bool // whether they are those of the port
	}{
		{units{256, 5120, 512, 3840}, true},
		// Age is rounded up
		{units{255, 5120, 512, 3840}, true},
		{units{1, 5120, 512, 3840}, true},
		{units{0, 5120, 512, 3840}, false},
		{units{257, 5120, 512, 3840}, false},
		{units{512, 5120, 512, 3840}, false},
		// and the others down
		{units{256, 5375, 512, 3840}, true},
		{units{256, 5376, 512, 3840}, false},
		{units{256, 5119, 512, 3840}, false},
		{units{256, 5120, 767, 3840}, true},
		{units{256, 5120, 768, 3840}, false},
		{units{256, 5120, 511, 3840}, false},
		{units{256, 5120, 0, 3840}, false},
		{units{256, 5120, 512, 4095}, true},
		{units{256, 5120, 512, 4096}, false},
		{units{256, 5120, 512, 3839}, false},
		{units{65535, 65535, 65535, 65535}, false},
	} {
		want := always(api.Superior)
		if x.want {
			want = whenReceived
		}
		mustTellAll(t, api.Config, 0, []api.Vector{held}, x.u, want)
		mustTellAll(t, api.RST, designated, []api.Vector{held}, x.u, want)
		// They make no difference to other roles, and to other vectors.
		mustTellAll(t, api.RST, root, []api.Vector{held}, x.u, always(api.NotDesignated))
		mustTellAll(t, api.RST, designated, inferior, x.u, always(api.Inferior))
		mustTellAll(t, api.RST, designated, superior, x.u, always(api.Superior))
	}
}

// A Hello below one second counts as one.
func TestNewsByShortHello(t *testing.T) {
	for _, x := range []struct {
		hello uint16
		has   int
		want  api.News
	}{
		{0, 1, api.Repeated}, {1, 1, api.Repeated}, {255, 1, api.Repeated}, {256, 1, api.Repeated}, {511, 1, api.Repeated},
		{512, 1, api.Superior},
		{0, 0, api.Superior}, {1, 0, api.Superior}, {255, 0, api.Superior}, {256, 0, api.Superior},
		{0, 2, api.Superior}, {255, 2, api.Superior},
	} {
		for _, base := range bases() {
			p := at(base, api.Received)
			p.PortTimes.Hello = x.has
			p.Msg = message(api.RST, designated, held, units{256, 5120, x.hello, 3840})
			mustTell(t, p, x.want)
			p.Msg.Kind, p.Msg.Flags = api.Config, 0
			mustTell(t, p, x.want)
		}
	}
}

// The vector and the times are those of Msg and of the port, not any others.
func TestNewsLooksAtNoOthers(t *testing.T) {
	p := at(filledPort(true), api.Received)
	p.Msg = message(api.RST, designated, held, heldUnits)
	p.MsgVector, p.DesignatedVector = superior[0], inferior[0]
	p.MsgTimes, p.DesignatedTimes = api.Times{}, api.Times{}
	mustTell(t, p, api.Repeated)
	p.Msg.Vector = inferior[0]
	p.MsgVector, p.DesignatedVector, p.RcvdInfo = held, held, api.Superior
	mustTell(t, p, api.Inferior)
	p.Msg.Vector = superior[0]
	mustTell(t, p, api.Superior)
}

func TestNewsOfEmptyPort(t *testing.T) {
	mustTell(t, api.Port{}, api.Other)
	// Its Hello is one second, and not 0.
	mustTell(t, api.Port{Msg: api.BPDU{Kind: api.Config}}, api.Superior)
	mustTell(t, api.Port{Msg: api.BPDU{Kind: api.RST, Flags: root}}, api.NotDesignated)
}

func TestNewsOfNoPort(t *testing.T) {
	if got := info.News(nil); got != api.Other {
		t.Error(got)
	}
}

// P15.1: which port, and a port that there isn't

// ready are ports that have each of the transitions to make, and what it sets.
func ready() ([]api.Port, []change) {
	down := filledPort(true)
	down.Enabled = false
	up := without(filledPort(true), rcvdMsg)
	up.Pim = info.Disabled
	update := filledPort(true)
	update.Pim = info.Current
	hears := toHear(filledPort(true), api.Mine, message(api.Config, 1, superior[0], otherUnits))
	ages := without(filledPort(true), updtInfo, rcvdMsg)
	ages.Pim, ages.InfoIs, ages.RcvdInfoWhile = info.Current, api.Received, 0
	return []api.Port{down, up, update, hears, ages},
		[]change{disabled, aged, updated(false), heard(api.Superior, takenOver(false), api.Times{Age: 2, Max: 20, Hello: 2, Delay: 15}), aged}
}

// Each of them at each place of bridges of all sizes, whose other ports are ready, too.
func TestStepsAtEachPlace(t *testing.T) {
	ports, wants := ready()
	for k, p := range ports {
		for n := range api.MaxPorts + 1 {
			for i := range n {
				b := bridgeOf(true, slices.Repeat([]api.Port{p}, n)...)
				mustStepAt(t, stepping, copied(b), i, wants[k])
				mustStepAt(t, starting, copied(b), i, disabled)
			}
		}
	}
}

// mustDoNothing holds that there is no such port.
func mustDoNothing(t *testing.T, b *api.Bridge, i int) {
	t.Helper()
	if info.Step(b, i) {
		t.Errorf("Step of port %d returns true", i)
	}
	info.Start(b, i)
}

func TestNoSuchPort(t *testing.T) {
	readies, _ := ready()
	for n := range api.MaxPorts + 1 {
		for _, p := range readies {
			for _, rstp := range bools {
				// One more port lies behind the slice's length.
				ports := slices.Repeat([]api.Port{p}, n+1)
				b := bridgeOf(rstp, ports[:n]...)
				before := copied(b)
				for _, i := range []int{-1, -2, -n - 1, n, n + 1, least, most, math.MinInt, math.MaxInt} {
					mustDoNothing(t, &b, i)
				}
				mustBe(t, "no such port", b, before)
				if ports[n] != p {
					t.Errorf("the port behind the last one is %+v", ports[n])
				}
			}
		}
	}
}

func TestNoPortsAtAll(t *testing.T) {
	for _, b := range []api.Bridge{{}, {Rstp: true}, {Ports: []api.Port{}}, bridgeOf(true)} {
		before := copied(b)
		for _, i := range []int{-1, 0, 1} {
			mustDoNothing(t, &b, i)
		}
		mustBe(t, "no ports", b, before)
	}
}

func TestNoBridge(t *testing.T) {
	for _, i := range []int{-1, 0, 1, math.MinInt, math.MaxInt} {
		mustDoNothing(t, nil, i)
	}
}

// P15.1: Start

func TestStartFromAnyState(t *testing.T) {
	for _, base := range bases() {
		for _, s := range allPim {
			for _, from := range infos {
				for _, n := range append([]int{0}, notZero...) {
					eachOf(base, []flag{enabled, selected, reselect}, func(p api.Port) {
						p.Pim, p.InfoIs, p.RcvdInfoWhile = s, from, n
						mustStepAt(t, starting, bridgeOf(n > 1, p, p, p), 1, disabled)
					})
				}
			}
		}
	}
}

func TestStartWithAllFlags(t *testing.T) {
	for _, base := range bases() {
		eachOf(base, []flag{rcvdMsg, proposing, proposed, agree, agreed, reselect, selected}, func(p api.Port) {
			for _, rstp := range bools {
				mustStep(t, starting, rstp, p, disabled)
			}
		})
	}
}

// What DISABLE sets, one by one.
func TestStartOfFilledPort(t *testing.T) {
	b := bridgeOf(true, filledPort(true))
	b.Ports[0].Reselect = false
	info.Start(&b, 0)
	p := b.Ports[0]
	if p.RcvdMsg || p.Proposing || p.Proposed || p.Agree || p.Agreed || p.Selected || !p.Reselect {
		t.Errorf("%+v", p)
	}
	if p.RcvdInfoWhile != 0 || p.InfoIs != api.InfoDisabled || p.Pim != info.Disabled {
		t.Errorf("%+v", p)
	}
	if !p.Enabled || !p.Synced || !p.UpdtInfo || !p.NewInfo || !p.Disputed || p.Vector == (api.Vector{}) {
		t.Errorf("%+v", p)
	}
}

// P15.1: Step where the port isn't Enabled, or is in Disabled

// besides are the flags that the machine looks at beside Enabled.
var besides = []flag{rcvdMsg, selected, updtInfo}

func TestStepWhereDown(t *testing.T) {
	for _, base := range bases() {
		base.Enabled = false
		for _, s := range allPim {
			for _, n := range []int{0, 1, -1} {
				eachOf(base, besides, func(p api.Port) {
					p.Pim, p.RcvdInfoWhile = s, n
					for _, from := range infos[1:] {
						p.InfoIs = from
						mustStepAt(t, stepping, bridgeOf(n == 0, p, p, p), 1, disabled)
					}
				})
			}
		}
	}
}

// Where nothing is known any more, it depends on the state.
func TestStepWhereDownAndDisabled(t *testing.T) {
	for _, base := range bases() {
		base.Enabled, base.InfoIs = false, api.InfoDisabled
		for _, s := range append([]api.State{info.Disabled}, notPim...) {
			eachOf(base, besides, func(p api.Port) {
				p.Pim = s
				if s == info.Disabled && p.RcvdMsg {
					mustStepOfBoth(t, p, disabled)
				} else {
					mustStepOfBoth(t, p, nil)
				}
			})
		}
	}
}

func TestStepInDisabled(t *testing.T) {
	for _, base := range bases() {
		base.Pim = info.Disabled
		for _, from := range infos {
			for _, n := range []int{0, 1, -1} {
				eachOf(base, []flag{selected, updtInfo}, func(p api.Port) {
					p.InfoIs, p.RcvdInfoWhile = from, n
					mustStepOfBoth(t, with(p, enabled, rcvdMsg), disabled)
					mustStepOfBoth(t, with(without(p, rcvdMsg), enabled), aged)
					mustStepOfBoth(t, with(without(p, enabled), rcvdMsg), disabled)
					if from == api.InfoDisabled {
						mustStepOfBoth(t, without(p, enabled, rcvdMsg), nil)
					} else {
						mustStepOfBoth(t, without(p, enabled, rcvdMsg), disabled)
					}
				})
			}
		}
	}
}

// A port that is Enabled, in a state that isn't listed, does nothing.
func TestStepInNoState(t *testing.T) {
	for _, base := range bases() {
		base.Enabled = true
		for _, s := range notPim {
			for _, from := range infos {
				for _, n := range []int{0, 1} {
					eachOf(base, besides, func(p api.Port) {
						p.Pim, p.InfoIs, p.RcvdInfoWhile = s, from, n
						mustStepAt(t, stepping, bridgeOf(n == 0, p, p, p), 1, nil)
					})
				}
			}
		}
	}
}

// P15.1: UPDATE

// toUpdate returns the port with what UPDATE compares: a vector that it is to tell, and where its vector is from.
func toUpdate(base api.Port, s api.State, from api.Info, tell api.Vector) api.Port {
	p := with(at(base, from), enabled, selected, updtInfo)
	p.Pim, p.DesignatedVector = s, tell
	return p
}

// eachState calls f for the two states out of which UPDATE leads, and each base.
func eachState(f func(base api.Port, s api.State)) {
	for _, base := range bases() {
		for _, s := range []api.State{info.Aged, info.Current} {
			f(base, s)
		}
	}
}

func TestUpdateWhereBetterOrSame(t *testing.T) {
	eachState(func(base api.Port, s api.State) {
		for _, v := range append([]api.Vector{held}, better...) {
			eachOf(base, []flag{agreed, synced, proposing, proposed, rcvdMsg, newInfo}, func(p api.Port) {
				mustStep(t, stepping, true, toUpdate(p, s, api.Mine, v), updated(true))
			})
		}
	})
}

func TestUpdateWhereWorse(t *testing.T) {
	eachState(func(base api.Port, s api.State) {
		for _, v := range worse {
			eachOf(base, []flag{agreed, synced, proposing, proposed, rcvdMsg, newInfo}, func(p api.Port) {
				mustStep(t, stepping, true, toUpdate(p, s, api.Mine, v), updated(false))
			})
		}
	})
}

// Where the vector isn't Mine before, it counts as worse, whatever it is.
func TestUpdateWhereNotMine(t *testing.T) {
	eachState(func(base api.Port, s api.State) {
		for _, from := range infos {
			if from == api.Mine {
				continue
			}
			for _, v := range []api.Vector{held, superior[0], inferior[0]} {
				eachOf(base, []flag{agreed, synced}, func(p api.Port) {
					p = toUpdate(p, s, from, v)
					// MsgVector is as good, which is asked for Received alone.
					p.MsgVector = held
					mustStepOfBoth(t, p, updated(false))
				})
			}
		}
	})
}

// Agreed and Synced, one by one.
func TestUpdateOfAgreedAndSynced(t *testing.T) {
	for _, x := range []struct {
		tell                  api.Vector
		agreed, synced        bool
		thenAgreed, thenSyncd bool
	}{
		{held, false, false, false, false},
		{held, false, true, false, false},
		{held, true, false, true, false},
		{held, true, true, true, true},
		{superior[0], true, true, true, true},
		{superior[0], false, true, false, false},
		{inferior[0], true, true, false, false},
		{inferior[0], true, false, false, false},
		{inferior[0], false, true, false, false},
	} {
		p := toUpdate(api.Port{Agreed: x.agreed, Synced: x.synced}, info.Aged, api.Mine, x.tell)
		b := bridgeOf(true, p)
		if !info.Step(&b, 0) || b.Ports[0].Agreed != x.thenAgreed || b.Ports[0].Synced != x.thenSyncd {
			t.Errorf("%+v becomes %+v", p, b.Ports[0])
		}
	}
}

// UPDATE comes before HEAR, and before what is known ages; without it, a port with UpdtInfo waits.
func TestStepByUpdtInfo(t *testing.T) {
	eachState(func(base api.Port, s api.State) {
		for _, from := range infos {
			for _, n := range []int{0, 1} {
				for _, msg := range bools {
					p := toUpdate(base, s, from, inferior[0])
					p.RcvdMsg, p.RcvdInfoWhile = msg, n
					mustStepOfBoth(t, p, updated(false))
					mustStepOfBoth(t, without(p, selected), nil)
				}
			}
		}
	})
}

// In Aged there is nothing else to do.
func TestStepInAged(t *testing.T) {
	for _, base := range bases() {
		base = with(base, enabled)
		base.Pim = info.Aged
		for _, from := range infos {
			for _, n := range []int{0, 1} {
				eachOf(without(base, updtInfo), []flag{rcvdMsg, selected}, func(p api.Port) {
					p.InfoIs, p.RcvdInfoWhile = from, n
					mustStepOfBoth(t, p, nil)
				})
			}
		}
	}
}

// P15.1: in Current, without UpdtInfo

// What is known ages at 0 alone, and only what was received; Selected makes no difference.
func TestStepInCurrentByTime(t *testing.T) {
	for _, base := range bases() {
		base = with(without(base, updtInfo, rcvdMsg), enabled)
		base.Pim = info.Current
		for _, isSelected := range bools {
			base.Selected = isSelected
			for _, from := range infos {
				for _, n := range append([]int{0}, notZero...) {
					base.InfoIs, base.RcvdInfoWhile = from, n
					if from == api.Received && n == 0 {
						mustStepOfBoth(t, base, aged)
					} else {
						mustStepOfBoth(t, base, nil)
					}
				}
			}
		}
	}
}

// A message is heard before what is known ages, so that it doesn't, if the message repeats it.
func TestHearBeforeAging(t *testing.T) {
	for _, base := range bases() {
		for _, isSelected := range bools {
			p := toHear(base, api.Received, message(api.RST, designated, held, heldUnits))
			p.RcvdInfoWhile, p.Selected = 0, isSelected
			mustStepOfBoth(t, p, heard(api.Repeated, repeated, heldTimes))
			p.Msg.Kind = api.NoBPDU
			mustStepOfBoth(t, p, heard(api.Other, nil, heldTimes))
		}
	}
}

// P15.1: HEAR

// otherTimes are those of otherUnits.
var otherTimes = api.Times{Age: 2, Max: 20, Hello: 2, Delay: 15}

// besidesHeard are the flags that HEAR may set, and the one that it asks.
var besidesHeard = []flag{agree, agreed, proposing, proposed, rcvdTc, rcvdTcAck, disputed}

// mustHearAll holds what HEAR sets, with all combinations of flags of the message and of the port.
func mustHearAll(t *testing.T, p api.Port, role byte, flags []flag, want change) {
	t.Helper()
	eachFlags(role, func(bits byte) {
		p.Msg.Flags = bits
		eachOf(p, flags, func(p api.Port) { mustStepAt(t, stepping, bridgeOf(true, p, p, p), 1, want) })
	})
}

// BetterOrSame holds where the message's vector is better, and what the port has is from the same place.
func TestHearSuperior(t *testing.T) {
	for _, kind := range []api.Kind{api.Config, api.RST} {
		for _, base := range bases() {
			for _, from := range []api.Info{api.Mine, api.Received} {
				p := toHear(base, from, message(kind, 0, superiorFromThere[0], otherUnits))
				mustHearAll(t, p, designated, besidesHeard[:6], heard(api.Superior, takenOver(from == api.Received), otherTimes))
				p.Msg.Vector = worseFromThere[0]
				mustHearAll(t, p, designated, []flag{agree, agreed, proposing}, heard(api.Superior, takenOver(false), otherTimes))
			}
		}
	}
}

// Agree stays where the message's vector is at least as good as the one before, and that one is from there, too.
func TestHearSuperiorWithAgree(t *testing.T) {
	mustAgree := func(v api.Vector, same bool) {
		for _, base := range bases() {
			for _, from := range infos {
				p := toHear(with(base, agree), from, message(api.RST, designated, v, otherUnits))
				// What the port would tell is not what is asked for, nor is what it has heard before.
				for _, x := range []api.Vector{superior[0], inferior[0]} {
					p.DesignatedVector, p.MsgVector = x, x
					want := same && from == api.Received
					mustStep(t, stepping, true, p, heard(api.Superior, takenOver(want), otherTimes))
					mustStep(t, stepping, true, without(p, agree), heard(api.Superior, takenOver(want), otherTimes))
				}
			}
		}
	}
	for _, v := range append([]api.Vector{held}, better...) {
		mustAgree(v, true)
	}
	for _, v := range worseFromThere {
		mustAgree(v, false)
	}
}

// Where the times alone differ, too, and for how long they count.
func TestHearSuperiorByTimes(t *testing.T) {
	for _, x := range []struct {
		u     units
		want  api.Times
		lives int
	}{
		{units{0, 5120, 512, 3840}, api.Times{Age: 0, Max: 20, Hello: 2, Delay: 15}, 6},
		{units{0, 5120, 256, 3840}, api.Times{Age: 0, Max: 20, Hello: 1, Delay: 15}, 3},
		{units{0, 5120, 0, 3840}, api.Times{Age: 0, Max: 20, Hello: 1, Delay: 15}, 3},
		{units{0, 5120, 255, 3840}, api.Times{Age: 0, Max: 20, Hello: 1, Delay: 15}, 3},
		{units{0, 5120, 2600, 3840}, api.Times{Age: 0, Max: 20, Hello: 10, Delay: 15}, 30},
		{units{257, 1023, 767, 1024}, api.Times{Age: 2, Max: 3, Hello: 2, Delay: 4}, 6},
		{units{4864, 5120, 512, 3840}, api.Times{Age: 19, Max: 20, Hello: 2, Delay: 15}, 6},
		{units{4865, 5120, 512, 3840}, api.Times{Age: 20, Max: 20, Hello: 2, Delay: 15}, 0},
		{units{5120, 5119, 512, 3840}, api.Times{Age: 20, Max: 19, Hello: 2, Delay: 15}, 0},
		{units{}, api.Times{Hello: 1}, 0},
		{units{65535, 65535, 65535, 65535}, api.Times{Age: 256, Max: 255, Hello: 255, Delay: 255}, 0},
		{units{1, 65535, 65535, 65535}, api.Times{Age: 1, Max: 255, Hello: 255, Delay: 255}, 765},
	} {
		for _, base := range bases() {
			p := toHear(base, api.Received, message(api.Config, 0, held, x.u))
			more := func(p *api.Port) {
				takenOver(true)(p)
				p.RcvdInfoWhile = x.lives
			}
			mustStepOfBoth(t, p, heard(api.Superior, more, x.want))
		}
	}
}

// Only what was received from there is repeated; otherwise the message tells nothing.
func TestHearRepeated(t *testing.T) {
	for _, kind := range []api.Kind{api.Config, api.RST} {
		for _, base := range bases() {
			p := toHear(base, api.Received, message(kind, 0, held, heldUnits))
			mustHearAll(t, p, designated, besidesHeard[1:7], heard(api.Repeated, repeated, heldTimes))
		}
	}
}

// A message whose Age is as great as its Max counts no longer, even if it is repeated.
func TestHearRepeatedOfOldMessage(t *testing.T) {
	for _, age := range []int{19, 20, 21} {
		for _, base := range bases() {
			p := toHear(base, api.Received, message(api.RST, designated, held, units{uint16(256 * age), 5120, 512, 3840}))
			p.PortTimes.Age = age
			more := func(p *api.Port) {
				p.RcvdInfoWhile = 0
				if age == 19 {
					p.RcvdInfoWhile = 6
				}
			}
			mustStepOfBoth(t, p, heard(api.Repeated, more, api.Times{Age: age, Max: 20, Hello: 2, Delay: 15}))
		}
	}
}

func TestHearInferior(t *testing.T) {
	for _, kind := range []api.Kind{api.Config, api.RST} {
		for _, base := range bases() {
			p := toHear(base, api.Mine, message(kind, 0, inferior[2], otherUnits))
			mustHearAll(t, p, designated, besidesHeard[1:7], heard(api.Inferior, contradicted, otherTimes))
		}
	}
	for _, v := range inferior {
		for _, from := range infos {
			for _, base := range bases() {
				p := toHear(base, from, message(api.RST, designated|16, v, heldUnits))
				mustStepOfBoth(t, p, heard(api.Inferior, contradicted, heldTimes))
				p.Msg.Flags = designated
				mustStepOfBoth(t, p, heard(api.Inferior, contradicted, heldTimes))
			}
		}
	}
}

// Whether the bridge runs the rapid protocol, and how many ends the segment has, makes a difference here.
func TestHearNotDesignated(t *testing.T) {
	for _, role := range []byte{root, alternate} {
		for _, base := range bases() {
			for _, rstp := range bools {
				p := toHear(base, api.Mine, message(api.RST, 0, worse[0], otherUnits))
				eachFlags(role, func(flags byte) {
					p.Msg.Flags = flags
					eachOf(p, []flag{pointToPoint, agreed, proposing, rcvdTc, rcvdTcAck, disputed}, func(p api.Port) {
						mustStepAt(t, stepping, bridgeOf(rstp, p, p), 1, heard(api.NotDesignated, answered(rstp), otherTimes))
					})
				})
			}
		}
	}
}

// Each of what an agreement needs failing alone, one by one; FLAGS all the same.
func TestHearNotDesignatedWithoutOne(t *testing.T) {
	for _, x := range []struct {
		rstp, point bool
		flags       byte
		want        bool
	}{
		{true, true, root | 64, true},
		{true, true, alternate | 64, true},
		{true, true, root | 64 | 2 | 16 | 32, true},
		{false, true, root | 64, false},
		{true, false, root | 64, false},
		{true, true, root, false},
		{true, true, root | 2 | 16 | 32, false},
		{false, false, root, false},
	} {
		for _, from := range infos {
			for _, v := range append([]api.Vector{held}, worse...) {
				for _, was := range bools {
					p := toHear(api.Port{Proposing: true, Agreed: was, PointToPoint: x.point}, from, message(api.RST, x.flags|1|128, v, heldUnits))
					b := bridgeOf(x.rstp, p)
					if !info.Step(&b, 0) {
						t.Fatalf("%+v", p)
					}
					p = b.Ports[0]
					if p.Agreed != x.want || p.Proposing == x.want || !p.RcvdTc || !p.RcvdTcAck || p.Proposed || p.RcvdInfo != api.NotDesignated {
						t.Fatalf("%+v, %+v", x, p)
					}
				}
			}
		}
	}
}

// A Config with the flags of a root port's agreement is of a designated port.
func TestHearConfigWithAgreement(t *testing.T) {
	for _, v := range inferior {
		p := toHear(api.Port{PointToPoint: true, Proposing: true}, api.Mine, message(api.Config, root|64|16, v, heldUnits))
		mustStepOfBoth(t, p, heard(api.Inferior, nil, heldTimes))
	}
}

// What tells nothing is heard all the same; a TCN sets its flag.
func TestHearOther(t *testing.T) {
	mustHearNothing := func(from api.Info, m api.BPDU, seconds api.Times) {
		for _, base := range bases() {
			for _, p := range []api.Port{with(base, rcvdTcn), without(base, rcvdTcn)} {
				mustStepOfBoth(t, toHear(p, from, m), heard(api.Other, nil, seconds))
			}
		}
	}
	for _, from := range infos {
		for _, flags := range []byte{0, 64, 1 | 2 | 16 | 32 | 64 | 128} {
			for _, v := range better {
				mustHearNothing(from, message(api.RST, root|flags, v, otherUnits), otherTimes)
				mustHearNothing(from, message(api.RST, alternate|flags, v, otherUnits), otherTimes)
			}
			mustHearNothing(from, message(api.RST, flags, inferior[0], otherUnits), otherTimes)
			if from != api.Received {
				mustHearNothing(from, message(api.RST, designated|flags, held, heldUnits), heldTimes)
				mustHearNothing(from, message(api.Config, flags, held, heldUnits), heldTimes)
			}
		}
		for _, kind := range noMessages[1:] {
			mustHearNothing(from, message(kind, 255, superior[0], otherUnits), otherTimes)
		}
	}
}

func TestHearTCN(t *testing.T) {
	tcn := func(p *api.Port) { p.RcvdTcn = true }
	for _, base := range bases() {
		for _, from := range infos {
			for _, p := range []api.Port{with(base, rcvdTcn), without(base, rcvdTcn)} {
				mustStepOfBoth(t, toHear(p, from, api.BPDU{Kind: api.TCN}), heard(api.Other, tcn, api.Times{Hello: 1}))
				mustStepOfBoth(t, toHear(p, from, message(api.TCN, 255, superior[0], otherUnits)), heard(api.Other, tcn, otherTimes))
			}
		}
	}
}

// P15.1: all of it, for all that the machine looks at

// rule is one that leads out of some states, where its condition holds.
type rule struct {
	in    []api.State
	holds func(p api.Port) bool
	want  change
}

// count returns how many of these hold.
func count(l ...bool) int {
	n := 0
	for _, x := range l {
		if x {
			n++
		}
	}
	return n
}

// rules are those of the machine, for a port whose message repeats its vector.
func rules() []rule {
	return []rule{
		{allPim, func(p api.Port) bool { return count(!p.Enabled, p.InfoIs != 0) == 2 }, disabled},
		{[]api.State{0}, func(p api.Port) bool { return p.RcvdMsg }, disabled},
		{[]api.State{0}, func(p api.Port) bool { return p.Enabled }, aged},
		{[]api.State{1, 2}, func(p api.Port) bool { return count(p.Selected, p.UpdtInfo) == 2 }, updated(false)},
		{[]api.State{2}, func(p api.Port) bool { return count(!p.UpdtInfo, p.RcvdMsg) == 2 }, hearsRepeated},
		{[]api.State{2}, func(p api.Port) bool { return count(!p.UpdtInfo, p.InfoIs == 3, p.RcvdInfoWhile == 0) == 3 }, aged},
	}
}

// hearsRepeated is what the message sets: it repeats what was received, and tells nothing otherwise.
func hearsRepeated(p *api.Port) {
	if p.InfoIs == 3 {
		heard(api.Repeated, repeated, heldTimes)(p)
		return
	}
	heard(api.Other, nil, heldTimes)(p)
}

// next returns what the first rule does that can be applied.
func next(p api.Port) change {
	for _, r := range rules() {
		if slices.Contains(r.in, p.Pim) && r.holds(p) {
			return r.want
		}
	}
	return nil
}

func TestStepOfAllPorts(t *testing.T) {
	for _, base := range bases() {
		for _, from := range infos {
			for _, n := range []int{0, 1, -1, 6, most} {
				for _, s := range allPim {
					p := at(base, from)
					p.Pim, p.RcvdInfoWhile, p.DesignatedVector = s, n, inferior[0]
					p.Msg = message(api.RST, designated|2|1, held, heldUnits)
					eachOf(p, append([]flag{enabled}, besides...), func(p api.Port) {
						mustStepAt(t, stepping, bridgeOf(n == 0, p, p), 1, next(p))
					})
				}
			}
		}
	}
}

// The chapter's example.
func TestStepExample(t *testing.T) {
	b := bridgeOf(true, api.Port{Enabled: true})
	p := &b.Ports[0]
	if !info.Step(&b, 0) || p.InfoIs != api.Aged || info.Step(&b, 0) {
		t.Fatalf("%+v", *p)
	}
	p.UpdtInfo = true
	mustStepAt(t, stepping, copied(b), 0, nil)
	p.UpdtInfo, p.Selected = false, true
	mustStepAt(t, stepping, copied(b), 0, nil)
	p.UpdtInfo = true
	if !info.Step(&b, 0) || p.InfoIs != api.Mine || info.Step(&b, 0) {
		t.Fatalf("%+v", *p)
	}
}

// One message after another, from when the port is up until it is down.
func TestStepOneAfterAnother(t *testing.T) {
	b := bridgeOf(true, api.Port{PointToPoint: true})
	p := &b.Ports[0]
	info.Start(&b, 0)
	mustStepAt(t, stepping, copied(b), 0, nil)
	hears := func(kind api.Kind, flags byte, v api.Vector, u units) {
		p.Msg, p.RcvdMsg = message(kind, flags, v, u), true
	}
	for _, x := range []struct {
		name  string
		set   func()
		want  bool
		holds func() bool
	}{
		{"up", func() { p.Enabled = true }, true, func() bool { return p.InfoIs == api.Aged && p.Reselect }},
		{"a role", func() { p.Selected, p.UpdtInfo, p.DesignatedVector = true, true, held }, true, func() bool { return p.InfoIs == api.Mine && p.Vector == held && p.NewInfo }},
		{"agreement", func() { hears(api.RST, root|64, held, heldUnits) }, true, func() bool { return p.Agreed && p.RcvdInfo == api.NotDesignated }},
		{"the same again", func() { p.UpdtInfo = true }, true, func() bool { return p.Agreed }},
		{"inferior", func() { hears(api.RST, designated|16, inferior[0], heldUnits) }, true, func() bool { return p.Disputed && !p.Agreed }},
		{"superior", func() { hears(api.RST, designated|2, superior[0], heldUnits) }, true, func() bool {
			return p.Proposed && p.InfoIs == api.Received && p.Vector == superior[0] && p.RcvdInfoWhile == 6
		}},
		{"no more", func() { p.RcvdInfoWhile = 1 }, false, func() bool { return p.InfoIs == api.Received }},
		{"repeated", func() { hears(api.RST, designated, superior[0], heldUnits) }, true, func() bool { return p.RcvdInfo == api.Repeated && p.RcvdInfoWhile == 6 }},
		{"time is over", func() { p.RcvdInfoWhile = 0 }, true, func() bool { return p.InfoIs == api.Aged && p.Pim == info.Aged }},
		{"not in Aged", func() { hears(api.RST, designated, superior[0], heldUnits) }, false, func() bool { return p.RcvdMsg }},
		{"down", func() { p.Enabled = false }, true, func() bool { return p.InfoIs == api.InfoDisabled && !p.RcvdMsg }},
		{"still down", func() {}, false, func() bool { return p.Pim == info.Disabled }},
		{"a message while down", func() { p.RcvdMsg = true }, true, func() bool { return !p.RcvdMsg && p.Pim == info.Disabled }},
	} {
		x.set()
		if got := info.Step(&b, 0); got != x.want || !x.holds() {
			t.Fatalf("%s: %v, %+v", x.name, got, *p)
		}
	}
}
