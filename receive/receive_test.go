package receive_test

import (
	"fmt"
	"math"
	"reflect"
	"slices"
	"testing"

	"catenary/api"
	"catenary/receive"
)

// The ends of the seconds that a port may have.
const (
	least = -1 << 31
	most  = 1 << 31
)

// fill sets all that a value is made of to numbers from n on, and to flag; it leaves slices as they are.
func fill(v reflect.Value, n int, flag bool) int {
	switch v.Kind() {
	case reflect.Struct:
		for i := range v.NumField() {
			n = fill(v.Field(i), n, flag)
		}
		return n
	case reflect.Slice:
		return n
	case reflect.Bool:
		v.SetBool(flag)
	case reflect.Int:
		v.SetInt(int64(n))
	default:
		v.SetUint(uint64(n))
	}
	return n + 1
}

// filledPort returns a port in which no number is zero, no two are equal, and each flag is the same.
func filledPort(flag bool) api.Port {
	var p api.Port
	fill(reflect.ValueOf(&p).Elem(), 40, flag)
	return p
}

// bases are ports whose other fields shall make no difference, and stay as they are.
func bases() []api.Port {
	return []api.Port{{}, filledPort(false), filledPort(true)}
}

// bridgeOf returns a bridge with these ports, in which nothing else is zero.
func bridgeOf(rstp bool, ports ...api.Port) api.Bridge {
	var b api.Bridge
	fill(reflect.ValueOf(&b).Elem(), 200, true)
	b.Rstp, b.Ports = rstp, ports
	return b
}

// copied returns a bridge that shares nothing with b.
func copied(b api.Bridge) api.Bridge {
	b.Ports = slices.Clone(b.Ports)
	return b
}

func mustBe(t *testing.T, what string, got, want api.Bridge) {
	t.Helper()
	for i := range min(len(got.Ports), len(want.Ports)) {
		if got.Ports[i] != want.Ports[i] {
			t.Fatalf("%s: port %d is\n%+v, not\n%+v", what, i, got.Ports[i], want.Ports[i])
		}
	}
	if !reflect.DeepEqual(got, want) {
		t.Fatalf("%s: %+v, not %+v", what, got, want)
	}
}

// step is one of the functions of a machine's next transition.
type step struct {
	name string
	by   func(b *api.Bridge, i int) bool
}

var (
	receiving = step{"Receive", receive.Receive}
	migrating = step{"Migrate", receive.Migrate}
	detecting = step{"Detect", receive.Detect}
)

// starting is Start as a step that always is made.
var starting = step{"Start", func(b *api.Bridge, i int) bool {
	receive.Start(b, i)
	return true
}}

// change is what a transition makes of a port; nil: there is no transition.
type change func(p *api.Port)

// mustStepAt makes a step of port i, and holds that it does what it should, and nothing else.
func mustStepAt(t *testing.T, s step, b api.Bridge, i int, want change) {
	t.Helper()
	before, after := copied(b), copied(b)
	if want != nil {
		want(&after.Ports[i])
	}
	if got := s.by(&b, i); got != (want != nil) {
		t.Fatalf("%s of port %d of %+v returns %v", s.name, i, before, got)
	}
	mustBe(t, fmt.Sprintf("%s of port %d, which was\n%+v", s.name, i, before.Ports[i]), b, after)
}

// mustStep makes a step of a port alone, and at each of three places, among ports that are empty, filled, or such as itself.
func mustStep(t *testing.T, s step, rstp bool, p api.Port, want change) {
	t.Helper()
	mustStepAt(t, s, bridgeOf(rstp, p), 0, want)
	for i := range 3 {
		ports := []api.Port{{}, filledPort(true), p}
		ports[i] = p
		mustStepAt(t, s, bridgeOf(rstp, ports...), i, want)
	}
}

// flag is where a port has one of its flags.
type flag func(p *api.Port) *bool

func adminEdge(p *api.Port) *bool { return &p.AdminEdge }
func autoEdge(p *api.Port) *bool  { return &p.AutoEdge }
func enabled(p *api.Port) *bool   { return &p.Enabled }
func mcheck(p *api.Port) *bool    { return &p.Mcheck }
func operEdge(p *api.Port) *bool  { return &p.OperEdge }
func proposing(p *api.Port) *bool { return &p.Proposing }
func rcvdBPDU(p *api.Port) *bool  { return &p.RcvdBPDU }
func rcvdMsg(p *api.Port) *bool   { return &p.RcvdMsg }
func rcvdRSTP(p *api.Port) *bool  { return &p.RcvdRSTP }
func rcvdSTP(p *api.Port) *bool   { return &p.RcvdSTP }
func sendRSTP(p *api.Port) *bool  { return &p.SendRSTP }

// eachOf calls f for the port with all combinations of these flags.
func eachOf(p api.Port, flags []flag, f func(p api.Port)) {
	for bits := range 1 << len(flags) {
		for k, of := range flags {
			*of(&p) = bits>>k&1 != 0
		}
		f(p)
	}
}

// with returns the port with these flags set.
func with(p api.Port, set ...flag) api.Port {
	for _, of := range set {
		*of(&p) = true
	}
	return p
}

// without returns the port with these flags not set.
func without(p api.Port, unset ...flag) api.Port {
	for _, of := range unset {
		*of(&p) = false
	}
	return p
}

var (
	bools = []bool{false, true}
	// kinds are the three of messages, that of none, and numbers that aren't any.
	kinds = []api.Kind{api.NoBPDU, api.Config, api.TCN, api.RST, -1, 4, -api.RST}
	// notMigrate are seconds that aren't MigrateTime.
	notMigrate = []int{0, 1, 2, 4, 20, -1, -3, least, most}
	// notZero are seconds that aren't 0.
	notZero = []int{1, 2, 3, 4, 20, -1, -3, least, most}
	// The states that aren't listed, below and above.
	notPrx = []api.State{-1, 2, 3, 40, least, most, math.MinInt, math.MaxInt}
	notPpm = []api.State{-1, -2, 3, 4, 40, least, most, math.MinInt, math.MaxInt}
	notBdm = []api.State{-1, 2, 3, 40, least, most, math.MinInt, math.MaxInt}
)

// What the transitions set, written out.

func discarded(p *api.Port) {
	p.RcvdBPDU = false
	p.RcvdRSTP = false
	p.RcvdSTP = false
	p.RcvdMsg = false
	p.EdgeDelayWhile = 3
	p.Prx = 0
}

func takenRSTP(p *api.Port) {
	p.RcvdRSTP = true
	p.OperEdge = false
	p.RcvdBPDU = false
	p.RcvdMsg = true
	p.EdgeDelayWhile = 3
	p.Prx = 1
}

func takenSTP(p *api.Port) {
	p.RcvdSTP = true
	p.OperEdge = false
	p.RcvdBPDU = false
	p.RcvdMsg = true
	p.EdgeDelayWhile = 3
	p.Prx = 1
}

// taken returns what the receipt of a message of that kind sets.
func taken(k api.Kind) change {
	if k == api.RST {
		return takenRSTP
	}
	return takenSTP
}

// checked returns what CHECK sets in a port of a bridge.
func checked(rstp bool) change {
	return func(p *api.Port) {
		p.Mcheck = false
		p.SendRSTP = rstp
		p.MdelayWhile = 3
		p.Ppm = 0
	}
}

func selecting(p *api.Port) {
	p.SendRSTP = false
	p.MdelayWhile = 3
	p.Ppm = 1
}

func sensed(p *api.Port) {
	p.RcvdRSTP = false
	p.RcvdSTP = false
	p.Ppm = 2
}

func becameNotEdge(p *api.Port) {
	p.OperEdge = false
	p.Bdm = 0
}

func becameEdge(p *api.Port) {
	p.OperEdge = true
	p.Bdm = 1
}

// P14.1: the numbers of the states

func TestStates(t *testing.T) {
	got := []api.State{
		receive.Discard, receive.Taken,
		receive.Checking, receive.Selecting, receive.Sensing,
		receive.NotEdge, receive.Edge,
	}
	if want := []api.State{0, 1, 0, 1, 2, 0, 1}; !slices.Equal(got, want) {
		t.Errorf("%v", got)
	}
}

// P14.1: which port, and a port that there isn't

// ready are ports of which each machine has a transition to make.
func ready() []api.Port {
	down := filledPort(true)
	down.Enabled = false
	down.Ppm, down.Bdm = receive.Sensing, receive.NotEdge
	up := filledPort(true)
	up.Prx, up.Ppm, up.Bdm, up.EdgeDelayWhile = receive.Discard, receive.Selecting, receive.NotEdge, 0
	return []api.Port{down, up}
}

// Each of them at each place of bridges of all sizes, whose other ports are ready, too.
func TestStepsAtEachPlace(t *testing.T) {
	wants := [][]change{
		{discarded, checked(true), becameEdge, started(true, true)},
		{takenSTP, sensed, becameEdge, started(true, true)},
	}
	for k, p := range ready() {
		for n := range api.MaxPorts + 1 {
			for i := range n {
				b := bridgeOf(true, slices.Repeat([]api.Port{p}, n)...)
				for m, s := range []step{receiving, migrating, detecting, starting} {
					mustStepAt(t, s, copied(b), i, wants[k][m])
				}
			}
		}
	}
}

// mustDoNothing holds that there is no such port, for each function.
func mustDoNothing(t *testing.T, b *api.Bridge, i int) {
	t.Helper()
	for _, s := range []step{receiving, migrating, detecting} {
		if s.by(b, i) {
			t.Errorf("%s of port %d returns true", s.name, i)
		}
	}
	receive.Start(b, i)
}

func TestNoSuchPort(t *testing.T) {
	for n := range api.MaxPorts + 1 {
		for _, p := range ready() {
			for _, rstp := range bools {
				// One more port lies behind the slice's length.
				ports := slices.Repeat([]api.Port{p}, n+1)
				b := bridgeOf(rstp, ports[:n]...)
				before := copied(b)
				for _, i := range []int{-1, -2, -n, n, n + 1, least, most, math.MinInt, math.MaxInt} {
					mustDoNothing(t, &b, i)
				}
				mustBe(t, "no such port", b, before)
				if ports[n] != p {
					t.Errorf("the port behind the last one is %+v", ports[n])
				}
			}
		}
	}
}

func TestNoPortsAtAll(t *testing.T) {
	for _, b := range []api.Bridge{{}, {Rstp: true}, {Ports: []api.Port{}}, bridgeOf(true)} {
		before := copied(b)
		for _, i := range []int{-1, 0, 1} {
			mustDoNothing(t, &b, i)
		}
		mustBe(t, "no ports", b, before)
	}
}

func TestNoBridge(t *testing.T) {
	for _, i := range []int{-1, 0, 1, math.MinInt, math.MaxInt} {
		mustDoNothing(t, nil, i)
	}
}

// P14.1: Start

// started returns what Start sets in a port of a bridge.
func started(rstp, edge bool) change {
	return func(p *api.Port) {
		discarded(p)
		checked(rstp)(p)
		p.OperEdge = edge
		p.Bdm = 0
		if edge {
			p.Bdm = 1
		}
	}
}

func TestStart(t *testing.T) {
	for _, rstp := range bools {
		for _, p := range bases() {
			eachOf(p, []flag{adminEdge, operEdge, enabled, sendRSTP}, func(p api.Port) {
				mustStep(t, starting, rstp, p, started(rstp, p.AdminEdge))
			})
		}
	}
}

// The states in which the machines are make no difference, nor do the timers.
func TestStartFromAnyState(t *testing.T) {
	for _, base := range bases() {
		eachOf(base, []flag{adminEdge, enabled}, func(p api.Port) {
			for _, s := range append([]api.State{0, 1, 2}, notPpm...) {
				for _, n := range append([]int{3}, notMigrate...) {
					for _, rstp := range bools {
						p.Prx, p.Ppm, p.Bdm = s, s, s
						p.EdgeDelayWhile, p.MdelayWhile = n, n
						mustStepAt(t, starting, bridgeOf(rstp, p, p, p), 1, started(rstp, p.AdminEdge))
					}
				}
			}
		})
	}
}

// What Start sets, one by one.
func TestStartOfFilledPort(t *testing.T) {
	b := bridgeOf(true, filledPort(true))
	receive.Start(&b, 0)
	p := b.Ports[0]
	if p.RcvdBPDU || p.RcvdRSTP || p.RcvdSTP || p.RcvdMsg || p.Mcheck || !p.SendRSTP || !p.OperEdge {
		t.Errorf("%+v", p)
	}
	if p.EdgeDelayWhile != 3 || p.MdelayWhile != 3 || p.Prx != receive.Discard || p.Ppm != receive.Checking || p.Bdm != receive.Edge {
		t.Errorf("%+v", p)
	}
	b = bridgeOf(false, without(filledPort(true), adminEdge))
	receive.Start(&b, 0)
	if p = b.Ports[0]; p.SendRSTP || p.OperEdge || p.Bdm != receive.NotEdge {
		t.Errorf("%+v", p)
	}
}

// A port of an old bridge, or of a new one, has nothing to do after Start until something happens.
func TestAfterStart(t *testing.T) {
	for _, rstp := range bools {
		for _, base := range bases() {
			eachOf(base, []flag{adminEdge, enabled}, func(p api.Port) {
				b := bridgeOf(rstp, p)
				receive.Start(&b, 0)
				mustStepAt(t, receiving, copied(b), 0, nil)
				mustStepAt(t, migrating, copied(b), 0, nil)
				mustStepAt(t, detecting, copied(b), 0, nil)
			})
		}
	}
}

// P14.1: Receive

// mustReceive asks it of bridges that send RST messages, and of those that don't: it makes no difference.
func mustReceive(t *testing.T, p api.Port, want change) {
	t.Helper()
	for _, rstp := range bools {
		mustStep(t, receiving, rstp, p, want)
	}
}

// received returns a base with what Receive looks at.
func received(base api.Port, s api.State, edge int, k api.Kind, bpdu, msg bool) api.Port {
	base.Prx, base.EdgeDelayWhile, base.Msg.Kind, base.RcvdBPDU, base.RcvdMsg = s, edge, k, bpdu, msg
	return base
}

// Where the port isn't Enabled: in any state, also in one that isn't listed.
func TestReceiveWhereDown(t *testing.T) {
	for _, base := range bases() {
		base.Enabled = false
		for _, s := range append([]api.State{receive.Discard, receive.Taken}, notPrx...) {
			for _, msg := range bools {
				mustReceive(t, received(base, s, 3, api.RST, false, msg), nil)
				mustReceive(t, received(base, s, 3, api.RST, true, msg), discarded)
				for _, n := range notMigrate {
					mustReceive(t, received(base, s, n, api.Config, false, msg), discarded)
					mustReceive(t, received(base, s, n, api.Config, true, msg), discarded)
				}
			}
		}
	}
}

// Where it is Enabled: EdgeDelayWhile makes no difference.
func TestReceiveWhereUp(t *testing.T) {
	for _, base := range bases() {
		base.Enabled = true
		for _, k := range kinds {
			for _, n := range append([]int{3}, notMigrate...) {
				mustReceive(t, received(base, receive.Discard, n, k, true, false), taken(k))
				mustReceive(t, received(base, receive.Discard, n, k, true, true), taken(k))
				mustReceive(t, received(base, receive.Taken, n, k, true, false), taken(k))
				mustReceive(t, received(base, receive.Taken, n, k, true, true), nil)
				mustReceive(t, received(base, receive.Discard, n, k, false, false), nil)
				mustReceive(t, received(base, receive.Discard, n, k, false, true), nil)
				mustReceive(t, received(base, receive.Taken, n, k, false, false), nil)
				mustReceive(t, received(base, receive.Taken, n, k, false, true), nil)
			}
		}
	}
}

func TestReceiveWhereUpInNoState(t *testing.T) {
	for _, base := range bases() {
		base.Enabled = true
		for _, s := range notPrx {
			for _, bpdu := range bools {
				for _, msg := range bools {
					mustReceive(t, received(base, s, 3, api.RST, bpdu, msg), nil)
					mustReceive(t, received(base, s, 0, api.Config, bpdu, msg), nil)
				}
			}
		}
	}
}

// What was received before of the other protocol stays.
func TestReceiveKeepsTheOtherProtocol(t *testing.T) {
	for _, base := range bases() {
		base = with(base, enabled, rcvdBPDU)
		base.Prx = receive.Discard
		for _, k := range kinds {
			eachOf(base, []flag{rcvdRSTP, rcvdSTP, operEdge, sendRSTP}, func(p api.Port) {
				p.Msg.Kind = k
				mustReceive(t, p, taken(k))
			})
		}
	}
}

// The message itself, and what else a port tells of it, isn't looked at.
func TestReceiveLooksAtTheKindAlone(t *testing.T) {
	for _, flags := range []byte{0, api.FlagProposal, api.FlagTcAck, 255} {
		for _, k := range kinds {
			p := api.Port{Enabled: true, RcvdBPDU: true, Msg: api.BPDU{Kind: k, Flags: flags}}
			mustReceive(t, p, taken(k))
			p.Msg = api.BPDU{Kind: k, Flags: flags, Vector: api.Vector{Root: 1, Cost: 2, Bridge: 3, Port: 4}, Age: 5, Max: 1}
			mustReceive(t, p, taken(k))
		}
	}
}

func TestReceiveExample(t *testing.T) {
	b := api.Bridge{Ports: []api.Port{{Enabled: true, RcvdBPDU: true}}}
	if !receive.Receive(&b, 0) || receive.Receive(&b, 0) {
		t.Errorf("%+v", b)
	}
}

// One message after another, until the port is down.
func TestReceiveOneAfterAnother(t *testing.T) {
	b := bridgeOf(true, api.Port{Enabled: true})
	p := &b.Ports[0]
	mustStepAt(t, receiving, copied(b), 0, nil)
	p.RcvdBPDU, p.Msg.Kind, p.EdgeDelayWhile, p.OperEdge = true, api.RST, 1, true
	if !receive.Receive(&b, 0) || *p != (api.Port{Enabled: true, Msg: api.BPDU{Kind: api.RST}, EdgeDelayWhile: 3, RcvdMsg: true, RcvdRSTP: true, Prx: receive.Taken}) {
		t.Fatalf("%+v", *p)
	}
	p.RcvdBPDU, p.Msg.Kind = true, api.TCN
	mustStepAt(t, receiving, copied(b), 0, nil)
	p.RcvdMsg = false
	if !receive.Receive(&b, 0) || *p != (api.Port{Enabled: true, Msg: api.BPDU{Kind: api.TCN}, EdgeDelayWhile: 3, RcvdMsg: true, RcvdRSTP: true, RcvdSTP: true, Prx: receive.Taken}) {
		t.Fatalf("%+v", *p)
	}
	p.Enabled = false
	mustStepAt(t, receiving, copied(b), 0, nil)
	p.EdgeDelayWhile = 2
	if !receive.Receive(&b, 0) || *p != (api.Port{Msg: api.BPDU{Kind: api.TCN}, EdgeDelayWhile: 3}) {
		t.Fatalf("%+v", *p)
	}
	mustStepAt(t, receiving, copied(b), 0, nil)
}

// P14.1: Migrate

// besidesEnabled are the flags that Ppm looks at, or sets, beside that one.
var besidesEnabled = []flag{mcheck, sendRSTP, rcvdRSTP, rcvdSTP}

// inPpm calls f for each base in that state, with all combinations of flags, for bridges of both protocols.
func inPpm(s api.State, n int, up bool, flags []flag, f func(p api.Port, rstp bool)) {
	for _, base := range bases() {
		base.Ppm, base.MdelayWhile, base.Enabled = s, n, up
		for _, rstp := range bools {
			eachOf(base, flags, func(p api.Port) { f(p, rstp) })
		}
	}
}

// mustMigrateFrom holds it for all that makes no difference.
func mustMigrateFrom(t *testing.T, s api.State, n int, up bool, flags []flag, want func(rstp bool) change) {
	t.Helper()
	inPpm(s, n, up, flags, func(p api.Port, rstp bool) { mustStep(t, migrating, rstp, p, want(rstp)) })
}

// always is a change for bridges of both protocols.
func always(want change) func(rstp bool) change {
	return func(bool) change { return want }
}

// At 0 it senses, also where the port isn't Enabled, so that the other condition would hold, too.
func TestMigrateFromChecking(t *testing.T) {
	mustMigrateFrom(t, receive.Checking, 0, true, besidesEnabled, always(sensed))
	mustMigrateFrom(t, receive.Checking, 0, false, besidesEnabled, always(sensed))
	mustMigrateFrom(t, receive.Checking, 3, true, besidesEnabled, always(nil))
	mustMigrateFrom(t, receive.Checking, 3, false, besidesEnabled, always(nil))
	for _, n := range []int{1, 2, 4, 20, -1, -3, least, most} {
		mustMigrateFrom(t, receive.Checking, n, true, besidesEnabled, always(nil))
		mustMigrateFrom(t, receive.Checking, n, false, besidesEnabled, checked)
	}
}

func TestMigrateFromSelecting(t *testing.T) {
	mustMigrateFrom(t, receive.Selecting, 0, true, besidesEnabled, always(sensed))
	mustMigrateFrom(t, receive.Selecting, 0, false, besidesEnabled, always(sensed))
	for _, n := range notZero {
		mustMigrateFrom(t, receive.Selecting, n, false, besidesEnabled, always(sensed))
		inPpm(receive.Selecting, n, true, []flag{sendRSTP, rcvdRSTP, rcvdSTP}, func(p api.Port, rstp bool) {
			mustStep(t, migrating, rstp, with(p, mcheck), sensed)
			mustStep(t, migrating, rstp, without(p, mcheck), nil)
		})
	}
}

// Where the port isn't Enabled, or Mcheck is set, it checks, whatever else holds; MdelayWhile makes no difference.
func TestMigrateFromSensing(t *testing.T) {
	for _, n := range append([]int{0}, notZero...) {
		mustMigrateFrom(t, receive.Sensing, n, false, besidesEnabled, checked)
		inPpm(receive.Sensing, n, true, []flag{sendRSTP, rcvdRSTP, rcvdSTP}, func(p api.Port, rstp bool) {
			mustStep(t, migrating, rstp, with(p, mcheck), checked(rstp))
		})
	}
}

// What a port sends, and what it has received, by the protocol of the bridge, one by one.
func TestMigrateFromSensingByWhatWasReceived(t *testing.T) {
	for _, x := range []struct {
		rstp, sends, rcvdRSTP, rcvdSTP bool
		want                           change
	}{
		{false, false, false, false, nil},
		{false, false, false, true, nil},
		{false, false, true, false, nil},
		{false, false, true, true, nil},
		{false, true, false, false, nil},
		{false, true, false, true, selecting},
		{false, true, true, false, nil},
		{false, true, true, true, selecting},
		{true, false, false, false, nil},
		{true, false, false, true, nil},
		{true, false, true, false, checked(true)},
		{true, false, true, true, checked(true)},
		{true, true, false, false, nil},
		{true, true, false, true, selecting},
		{true, true, true, false, nil},
		{true, true, true, true, selecting},
	} {
		for _, n := range append([]int{0}, notZero...) {
			for _, p := range bases() {
				p.Ppm, p.MdelayWhile, p.Enabled, p.Mcheck = receive.Sensing, n, true, false
				p.SendRSTP, p.RcvdRSTP, p.RcvdSTP = x.sends, x.rcvdRSTP, x.rcvdSTP
				mustStep(t, migrating, x.rstp, p, x.want)
			}
		}
	}
}

func TestMigrateInNoState(t *testing.T) {
	for _, s := range notPpm {
		for _, n := range []int{0, 1, 3} {
			mustMigrateFrom(t, s, n, true, besidesEnabled, always(nil))
			mustMigrateFrom(t, s, n, false, besidesEnabled, always(nil))
		}
	}
}

// A port meets an old bridge, later is told to check again, and meets a new one.
func TestMigrateThereAndBack(t *testing.T) {
	b := bridgeOf(true, api.Port{Enabled: true})
	p := &b.Ports[0]
	receive.Start(&b, 0)
	// While it checks, what others send counts for nothing.
	p.RcvdSTP = true
	mustStepAt(t, migrating, copied(b), 0, nil)
	for _, s := range []struct {
		name string
		set  func()
		want change
	}{
		{"time is over", func() { p.MdelayWhile = 0 }, sensed},
		{"an old bridge", func() { p.RcvdSTP = true }, selecting},
		{"time is over again", func() { p.MdelayWhile = 0 }, sensed},
		{"an old bridge still", func() { p.RcvdSTP = true }, nil},
		{"a new bridge", func() { p.RcvdRSTP = true }, checked(true)},
		{"time is over", func() { p.MdelayWhile = 0 }, sensed},
		{"an old bridge", func() { p.RcvdSTP = true }, selecting},
		{"told to check", func() { p.Mcheck = true }, sensed},
		{"told to check, still", func() {}, checked(true)},
		{"checked", func() {}, nil},
		{"down", func() { p.Enabled = false }, nil},
		{"down for a second", func() { p.MdelayWhile = 2 }, checked(true)},
	} {
		s.set()
		mustStepAt(t, step{s.name, receive.Migrate}, copied(b), 0, s.want)
		if receive.Migrate(&b, 0) != (s.want != nil) {
			t.Fatal(s.name)
		}
	}
}

// P14.1: Detect

// besidesEdge are the flags that make no difference to Detect in the state Edge.
var besidesEdge = []flag{autoEdge, sendRSTP, proposing}

// inBdm calls f for each base in that state, with all combinations of flags, for bridges of both protocols.
func inBdm(s api.State, n int, flags []flag, f func(p api.Port, rstp bool)) {
	for _, base := range bases() {
		base.Bdm, base.EdgeDelayWhile = s, n
		for _, rstp := range bools {
			eachOf(base, flags, func(p api.Port) { f(p, rstp) })
		}
	}
}

func TestDetectFromEdge(t *testing.T) {
	for _, n := range []int{0, 1, 3, -1} {
		inBdm(receive.Edge, n, besidesEdge, func(p api.Port, rstp bool) {
			// as it should be
			mustStep(t, detecting, rstp, with(p, enabled, adminEdge, operEdge), nil)
			mustStep(t, detecting, rstp, with(without(p, adminEdge), enabled, operEdge), nil)
			mustStep(t, detecting, rstp, with(without(p, enabled), adminEdge, operEdge), nil)
			// each condition alone
			mustStep(t, detecting, rstp, with(without(p, enabled, adminEdge), operEdge), becameNotEdge)
			mustStep(t, detecting, rstp, with(without(p, operEdge), enabled, adminEdge), becameNotEdge)
			mustStep(t, detecting, rstp, with(without(p, operEdge, adminEdge), enabled), becameNotEdge)
			mustStep(t, detecting, rstp, with(without(p, operEdge, enabled), adminEdge), becameNotEdge)
			// both
			mustStep(t, detecting, rstp, without(p, enabled, adminEdge, operEdge), becameNotEdge)
		})
	}
}

// A port that isn't Enabled, and is AdminEdge, whatever else holds.
func TestDetectFromNotEdgeByAdminEdge(t *testing.T) {
	for _, n := range append([]int{0}, notZero...) {
		inBdm(receive.NotEdge, n, append([]flag{operEdge}, besidesEdge...), func(p api.Port, rstp bool) {
			mustStep(t, detecting, rstp, with(without(p, enabled), adminEdge), becameEdge)
		})
	}
}

// All four of the other condition hold, or one of them doesn't; whether the port is Enabled makes no difference.
func TestDetectFromNotEdgeByAutoEdge(t *testing.T) {
	inBdm(receive.NotEdge, 0, []flag{operEdge, enabled, adminEdge}, func(p api.Port, rstp bool) {
		mustStep(t, detecting, rstp, with(p, besidesEdge...), becameEdge)
		if !p.Enabled && p.AdminEdge {
			return
		}
		for _, of := range besidesEdge {
			mustStep(t, detecting, rstp, without(with(p, besidesEdge...), of), nil)
			mustStep(t, detecting, rstp, with(without(p, besidesEdge...), of), nil)
		}
		mustStep(t, detecting, rstp, without(p, besidesEdge...), nil)
	})
	for _, n := range notZero {
		inBdm(receive.NotEdge, n, append([]flag{operEdge, enabled, adminEdge}, besidesEdge...), func(p api.Port, rstp bool) {
			if p.Enabled || !p.AdminEdge {
				mustStepAt(t, detecting, bridgeOf(rstp, p, p, p), 2, nil)
			}
		})
	}
}

func TestDetectInNoState(t *testing.T) {
	for _, s := range notBdm {
		for _, n := range []int{0, 3} {
			inBdm(s, n, append([]flag{operEdge, enabled, adminEdge}, besidesEdge...), func(p api.Port, rstp bool) {
				mustStepAt(t, detecting, bridgeOf(rstp, p, p, p), 1, nil)
			})
		}
	}
}

// A port to which no bridge answers is an edge port, until a message comes.
func TestDetectThereAndBack(t *testing.T) {
	b := bridgeOf(true, api.Port{Enabled: true, AutoEdge: true, Proposing: true})
	p := &b.Ports[0]
	receive.Start(&b, 0)
	mustStepAt(t, detecting, copied(b), 0, nil)
	p.EdgeDelayWhile = 0
	if !receive.Detect(&b, 0) || !p.OperEdge || p.Bdm != receive.Edge || receive.Detect(&b, 0) {
		t.Fatalf("%+v", *p)
	}
	p.RcvdBPDU = true
	if !receive.Receive(&b, 0) || p.OperEdge || !receive.Detect(&b, 0) || p.Bdm != receive.NotEdge || receive.Detect(&b, 0) {
		t.Fatalf("%+v", *p)
	}
}

// P14.1: all of it, for all that each machine looks at

// rule is one that leads out of some states, where its condition holds.
type rule struct {
	in    func(s api.State) bool
	holds func(p api.Port, rstp bool) bool
	want  func(p api.Port, rstp bool) change
}

func anyState(api.State) bool { return true }

func only(want api.State) func(s api.State) bool {
	return func(s api.State) bool { return s == want }
}

// does is a change that is the same for all ports and bridges.
func does(want change) func(p api.Port, rstp bool) change {
	return func(api.Port, bool) change { return want }
}

func doesCheck(_ api.Port, rstp bool) change { return checked(rstp) }

// count returns how many of these hold.
func count(l ...bool) int {
	n := 0
	for _, x := range l {
		if x {
			n++
		}
	}
	return n
}

// next returns what the first rule does that can be applied.
func next(rules []rule, s api.State, p api.Port, rstp bool) change {
	i := slices.IndexFunc(rules, func(r rule) bool { return r.in(s) && r.holds(p, rstp) })
	if i < 0 {
		return nil
	}
	return rules[i].want(p, rstp)
}

func prxRules() []rule {
	doesTake := func(p api.Port, _ bool) change { return taken(p.Msg.Kind) }
	return []rule{
		{anyState, func(p api.Port, _ bool) bool {
			return count(p.Enabled) == 0 && count(p.RcvdBPDU, p.EdgeDelayWhile != 3) > 0
		}, does(discarded)},
		{only(0), func(p api.Port, _ bool) bool { return count(p.Enabled, p.RcvdBPDU) == 2 }, doesTake},
		{only(1), func(p api.Port, _ bool) bool { return count(p.Enabled, p.RcvdBPDU, !p.RcvdMsg) == 3 }, doesTake},
	}
}

func ppmRules() []rule {
	return []rule{
		{only(0), func(p api.Port, _ bool) bool { return p.MdelayWhile == 0 }, does(sensed)},
		{only(0), func(p api.Port, _ bool) bool { return count(p.MdelayWhile != 3, !p.Enabled) == 2 }, doesCheck},
		{only(2), func(p api.Port, rstp bool) bool {
			return count(!p.Enabled, p.Mcheck, count(rstp, !p.SendRSTP, p.RcvdRSTP) == 3) > 0
		}, doesCheck},
		{only(2), func(p api.Port, _ bool) bool { return count(p.SendRSTP, p.RcvdSTP) == 2 }, does(selecting)},
		{only(1), func(p api.Port, _ bool) bool { return count(p.MdelayWhile == 0, !p.Enabled, p.Mcheck) > 0 }, does(sensed)},
	}
}

func bdmRules() []rule {
	return []rule{
		{only(1), func(p api.Port, _ bool) bool { return count(count(p.Enabled, p.AdminEdge) == 0, !p.OperEdge) > 0 }, does(becameNotEdge)},
		{only(0), func(p api.Port, _ bool) bool {
			return count(count(!p.Enabled, p.AdminEdge) == 2, count(p.EdgeDelayWhile == 0, p.AutoEdge, p.SendRSTP, p.Proposing) == 4) > 0
		}, does(becameEdge)},
	}
}

func TestReceiveOfAllPorts(t *testing.T) {
	for _, k := range kinds {
		for _, n := range append([]int{3}, notMigrate...) {
			for _, s := range []api.State{0, 1, 2, -1} {
				eachOf(api.Port{}, []flag{enabled, rcvdBPDU, rcvdMsg, rcvdRSTP, rcvdSTP, operEdge}, func(p api.Port) {
					p.Msg.Kind, p.EdgeDelayWhile, p.Prx = k, n, s
					mustStepAt(t, receiving, bridgeOf(true, p, p), 1, next(prxRules(), s, p, true))
				})
			}
		}
	}
}

func TestMigrateOfAllPorts(t *testing.T) {
	for _, n := range append([]int{0}, notZero...) {
		for _, s := range []api.State{0, 1, 2, 3, -1} {
			for _, rstp := range bools {
				eachOf(api.Port{}, append([]flag{enabled}, besidesEnabled...), func(p api.Port) {
					p.MdelayWhile, p.Ppm = n, s
					mustStepAt(t, migrating, bridgeOf(rstp, p, p), 0, next(ppmRules(), s, p, rstp))
				})
			}
		}
	}
}

func TestDetectOfAllPorts(t *testing.T) {
	for _, n := range append([]int{0}, notZero...) {
		for _, s := range []api.State{0, 1, 2, -1} {
			for _, rstp := range bools {
				eachOf(api.Port{}, append([]flag{enabled, adminEdge, operEdge}, besidesEdge...), func(p api.Port) {
					p.EdgeDelayWhile, p.Bdm = n, s
					mustStepAt(t, detecting, bridgeOf(rstp, p, p), 1, next(bdmRules(), s, p, rstp))
				})
			}
		}
	}
}
