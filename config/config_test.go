package config_test

import (
	"math"
	"reflect"
	"slices"
	"testing"

	"catenary/api"
	"catenary/config"
	"catenary/ident"
	"catenary/speed"
	"catenary/times"
)

// station is an address that a bridge may have; no two of its bytes are equal.
var station = api.Mac{2, 0x13, 0x35, 0x57, 0x79, 0x9b}

// stationID is the identifier of a bridge with this address and the usual priority.
const stationID = api.BridgeID(0x8000_0213_3557_799b)

// usualPort is what each port of Usual has to be.
var usualPort = config.Port{Priority: 128, Cost: 0, Edge: false, AutoEdge: true, Point: config.Auto}

// points are the three link types, one below and one above them, and some that are far off.
var points = []config.Point{config.Auto, config.Yes, config.No, -1, 3, 4, -2, 256, 257, 1 << 32, 1<<32 + 1, math.MinInt, math.MaxInt}

// speeds are of every kind that layer 1 tells apart.
var speeds = []speed.Speed{
	100, 2.5, 1e-9, 1e300, math.MaxFloat64, math.SmallestNonzeroFloat64,
	0, speed.Speed(math.Copysign(0, -1)), -1, -math.MaxFloat64, speed.Speed(math.NaN()), speed.Speed(math.Inf(1)), speed.Speed(math.Inf(-1)),
}

// copied returns a configuration that shares nothing with c, made without Copy.
func copied(c config.Config) config.Config {
	c.Ports = append([]config.Port{}, c.Ports...)
	return c
}

// mustBe compares two configurations; ports that are nil and ports that are empty count as equal.
func mustBe(t *testing.T, got, want config.Config) {
	t.Helper()
	if !reflect.DeepEqual(copied(got), copied(want)) {
		t.Errorf("it is %+v, not %+v", got, want)
	}
}

// mustCheck asks twice, and holds that the configuration isn't changed by that.
func mustCheck(t *testing.T, c config.Config, want api.Errno) {
	t.Helper()
	before := copied(c)
	for range 2 {
		if e := c.Check(); e != want {
			t.Errorf("Check of %+v returns %d, not %d", c, e, want)
		}
	}
	mustBe(t, c, before)
}

// fill sets all that a value is made of to numbers from n on, and to true; it leaves slices as they are.
func fill(v reflect.Value, n int) int {
	switch v.Kind() {
	case reflect.Struct:
		for i := range v.NumField() {
			n = fill(v.Field(i), n)
		}
		return n
	case reflect.Slice:
		return n
	case reflect.Bool:
		v.SetBool(true)
	case reflect.Int:
		v.SetInt(int64(n))
	default:
		v.SetUint(uint64(n))
	}
	return n + 1
}

// filledPort returns a port in which no field is zero.
func filledPort() api.Port {
	var x api.Port
	fill(reflect.ValueOf(&x).Elem(), 40)
	return x
}

// filledBridge returns a bridge in which no field is zero, with two ports like that.
func filledBridge() api.Bridge {
	var b api.Bridge
	fill(reflect.ValueOf(&b).Elem(), 90)
	b.Ports = []api.Port{filledPort(), filledPort()}
	return b
}

func TestNumbers(t *testing.T) {
	if config.Auto != 0 || config.Yes != 1 || config.No != 2 {
		t.Error(config.Auto, config.Yes, config.No)
	}
	if config.MinHold != 1 || config.UsualHold != 6 || config.MaxHold != 10 {
		t.Error(config.MinHold, config.UsualHold, config.MaxHold)
	}
	if config.MinAgeing != 10 || config.UsualAgeing != 300 || config.MaxAgeing != 1000000 {
		t.Error(config.MinAgeing, config.UsualAgeing, config.MaxAgeing)
	}
	if config.UsualPriority != 32768 || config.UsualPort != 128 {
		t.Error(config.UsualPriority, config.UsualPort)
	}
}

// P11.1: Usual

// mustBeUsual looks at each field of what Usual returns, and of each of its ports.
func mustBeUsual(t *testing.T, m api.Mac, asked, has int) config.Config {
	t.Helper()
	c := config.Usual(m, asked)
	mustBe(t, c, config.Config{
		Mac: m, Priority: 32768, Times: api.Times{Age: 0, Max: 20, Hello: 2, Delay: 15},
		Hold: 6, Rstp: true, Ageing: 300, Ports: slices.Repeat([]config.Port{usualPort}, has),
	})
	return c
}

func TestUsualByTheNumberOfPorts(t *testing.T) {
	for _, n := range []struct{ asked, has int }{
		{math.MinInt, 0}, {-1 << 32, 0}, {-1<<32 + 3, 0}, {-9, 0}, {-8, 0}, {-1, 0},
		{0, 0}, {1, 1}, {2, 2}, {3, 3}, {4, 4}, {5, 5}, {6, 6}, {7, 7}, {8, 8},
		{9, 8}, {10, 8}, {16, 8}, {99, 8}, {256, 8}, {1 << 31, 8}, {1 << 32, 8}, {1<<32 + 3, 8}, {math.MaxInt, 8},
	} {
		mustCheck(t, mustBeUsual(t, station, n.asked, n.has), api.OK)
	}
}

// An address is taken as it is; only Check holds it against what a bridge may have.
func TestUsualByTheAddress(t *testing.T) {
	for _, m := range []api.Mac{{}, {2, 0, 0, 0, 0, 1}, station, {0, 1, 1, 1, 1, 1}, {254, 255, 255, 255, 255, 255}} {
		mustCheck(t, mustBeUsual(t, m, 3, 3), api.OK)
	}
	for _, m := range []api.Mac{{1}, {1, 0x80, 0xc2, 0, 0, 0}, {255, 255, 255, 255, 255, 255}} {
		mustCheck(t, mustBeUsual(t, m, 3, 3), api.ErrRange)
	}
}

func TestUsualIsNewEachTime(t *testing.T) {
	for n := 1; n <= 9; n++ {
		x := config.Usual(station, n)
		x.Ports[0] = config.Port{Cost: 7}
		x.Ports = append(x.Ports, config.Port{Cost: 8})
		mustBeUsual(t, station, n, min(n, 8))
	}
}

// P11.1: Copy

// odd returns a configuration with n ports, no two of which are alike, and in which no field is as usual.
func odd(n int) config.Config {
	c := config.Config{
		Mac: api.Mac{1, 2, 3, 4, 5, 6}, Priority: -7, Times: api.Times{Age: 5, Max: -6, Hello: 700, Delay: 8},
		Hold: 99, Rstp: n%2 == 1, Ageing: -3,
	}
	for i := range n {
		c.Ports = append(c.Ports, config.Port{Priority: -i, Cost: math.MaxUint32 - uint32(i), Edge: i%2 == 0, AutoEdge: i%3 == 0, Point: config.Point(i - 1)})
	}
	return c
}

func TestCopyIsEqual(t *testing.T) {
	for n := range 20 {
		for _, c := range []config.Config{odd(n), config.Usual(station, n)} {
			before := copied(c)
			mustBe(t, c.Copy(), before)
			mustBe(t, c, before)
			mustBe(t, c.Copy().Copy(), before)
		}
	}
}

func TestCopyWithoutPorts(t *testing.T) {
	for _, ports := range [][]config.Port{nil, {}, make([]config.Port, 0, 4), odd(3).Ports[:0]} {
		c := odd(0)
		c.Ports = ports
		x := c.Copy()
		mustBe(t, x, odd(0))
		x.Ports = append(x.Ports, usualPort)
		mustBe(t, c, odd(0))
		if cap(ports) > 0 && ports[:1][0] == usualPort {
			t.Error("the copy's ports are written into the original's")
		}
	}
}

func TestCopyHasPortsOfItsOwn(t *testing.T) {
	for n := 1; n < 12; n++ {
		for i := range n {
			c := odd(n)
			x := c.Copy()
			x.Ports[i] = usualPort
			mustBe(t, c, odd(n))
			x = c.Copy()
			c.Ports[i] = usualPort
			mustBe(t, x, odd(n))
			x.Mac[0], x.Times.Max = 77, 88
			if c.Mac != odd(n).Mac || c.Times != odd(n).Times {
				t.Errorf("a change of the copy changes the original: %+v", c)
			}
		}
	}
}

// What lies behind the original's ports isn't copied, nor written when the copy gets a port more.
func TestCopyWithinTheLength(t *testing.T) {
	for n := range 6 {
		all := odd(8)
		c := all
		c.Ports = all.Ports[:n]
		x := c.Copy()
		x.Ports = append(x.Ports, usualPort)
		mustBe(t, all, odd(8))
		if len(x.Ports) != n+1 || !slices.Equal(x.Ports[:n], odd(8).Ports[:n]) || x.Ports[n] != usualPort {
			t.Errorf("a copy of %d ports, and one more: %+v", n, x.Ports)
		}
		x = c.Copy()
		c.Ports = append(c.Ports, usualPort)
		mustBe(t, x, config.Config{Mac: all.Mac, Priority: all.Priority, Times: all.Times, Hold: all.Hold, Rstp: all.Rstp, Ageing: all.Ageing, Ports: odd(8).Ports[:n]})
	}
}

// P11.1: Check

func TestCheckOfPriority(t *testing.T) {
	right := 0
	for n := -10000; n <= 70000; n++ {
		want := api.ErrRange
		if n == right && right <= 61440 {
			want, right = api.OK, right+4096
		}
		c := config.Usual(station, 1)
		c.Priority = n
		mustCheck(t, c, want)
	}
	if right != 65536 {
		t.Error(right)
	}
	for _, n := range []int{math.MinInt, -1 << 32, -65536, -4096, 65536, 1 << 32, 1<<32 + 4096, 1 << 62, math.MaxInt} {
		c := config.Usual(station, 1)
		c.Priority = n
		mustCheck(t, c, api.ErrRange)
	}
}

func TestCheckOfTimes(t *testing.T) {
	for _, x := range []struct {
		times api.Times
		want  api.Errno
	}{
		{api.Times{Age: 0, Max: 20, Hello: 2, Delay: 15}, api.OK},
		{api.Times{Age: 0, Max: 6, Hello: 1, Delay: 4}, api.OK},
		{api.Times{Age: 0, Max: 40, Hello: 2, Delay: 30}, api.OK},
		{api.Times{Age: 0, Max: 40, Hello: 1, Delay: 21}, api.OK},
		{api.Times{}, api.ErrRange},
		{api.Times{Age: 1, Max: 20, Hello: 2, Delay: 15}, api.ErrRange},
		{api.Times{Age: -1, Max: 20, Hello: 2, Delay: 15}, api.ErrRange},
		{api.Times{Age: 0, Max: 5, Hello: 1, Delay: 15}, api.ErrRange},
		{api.Times{Age: 0, Max: 41, Hello: 2, Delay: 30}, api.ErrRange},
		{api.Times{Age: 0, Max: 20, Hello: 0, Delay: 15}, api.ErrRange},
		{api.Times{Age: 0, Max: 20, Hello: 3, Delay: 15}, api.ErrRange},
		{api.Times{Age: 0, Max: 6, Hello: 2, Delay: 3}, api.ErrRange},
		{api.Times{Age: 0, Max: 20, Hello: 2, Delay: 31}, api.ErrRange},
		{api.Times{Age: 0, Max: 40, Hello: 2, Delay: 20}, api.ErrTimes},
		{api.Times{Age: 0, Max: 20, Hello: 2, Delay: 10}, api.ErrTimes},
		{api.Times{Age: 0, Max: 7, Hello: 1, Delay: 4}, api.ErrTimes},
		{api.Times{Age: 1, Max: 40, Hello: 2, Delay: 20}, api.ErrRange},
	} {
		for _, ports := range []int{0, 3} {
			c := config.Usual(station, ports)
			c.Times = x.times
			mustCheck(t, c, x.want)
		}
	}
}

func TestCheckOfAllNearTimes(t *testing.T) {
	c := config.Usual(station, 1)
	for age := -1; age <= 1; age++ {
		for most := 4; most <= 42; most++ {
			for hello := range 5 {
				for delay := 2; delay <= 32; delay++ {
					c.Times = api.Times{Age: age, Max: most, Hello: hello, Delay: delay}
					mustCheck(t, c, times.Check(c.Times))
				}
			}
		}
	}
}

// A group address is known by the first byte alone.
func TestCheckOfAddress(t *testing.T) {
	for n := range 256 {
		c := config.Usual(station, 1)
		c.Mac[0] = byte(n)
		want := api.OK
		if n%2 == 1 {
			want = api.ErrRange
		}
		mustCheck(t, c, want)
		for i := 1; i < len(c.Mac); i++ {
			c := config.Usual(station, 1)
			c.Mac[i] = byte(n)
			mustCheck(t, c, api.OK)
		}
	}
}

func TestCheckOfHold(t *testing.T) {
	c := config.Usual(station, 1)
	for n := -300; n <= 300; n++ {
		c.Hold = n
		want := api.ErrRange
		switch n {
		case 1, 2, 3, 4, 5, 6, 7, 8, 9, 10:
			want = api.OK
		}
		mustCheck(t, c, want)
	}
	for _, n := range []int{math.MinInt, -1 << 32, -1<<32 + 6, 1 << 16, 1<<32 + 6, math.MaxInt} {
		c.Hold = n
		mustCheck(t, c, api.ErrRange)
	}
}

func TestCheckOfAgeing(t *testing.T) {
	c := config.Usual(station, 1)
	for _, n := range []int{10, 11, 12, 99, 255, 256, 300, 65535, 65536, 999999, 1000000} {
		c.Ageing = n
		mustCheck(t, c, api.OK)
	}
	for _, n := range []int{math.MinInt, -1 << 32, -1<<32 + 300, -1000000, -300, -10, -1, 0, 1, 2, 8, 9, 1000001, 1000002, 2000000, 1 << 31, 1<<32 + 300, math.MaxInt} {
		c.Ageing = n
		mustCheck(t, c, api.ErrRange)
	}
}

func TestCheckOfTheMode(t *testing.T) {
	for n := range 9 {
		c := config.Usual(station, n)
		c.Rstp = false
		mustCheck(t, c, api.OK)
	}
}

func TestCheckOfTheNumberOfPorts(t *testing.T) {
	for n := range 40 {
		c := config.Usual(station, 0)
		c.Ports = slices.Repeat([]config.Port{usualPort}, n)
		want := api.OK
		if n > 8 {
			want = api.ErrRange
		}
		mustCheck(t, c, want)
	}
	// What lies behind the ports doesn't count, not even as one of them.
	c := config.Usual(station, 8)
	c.Ports = append(c.Ports, config.Port{Priority: 1})
	mustCheck(t, c, api.ErrRange)
	c.Ports = c.Ports[:8]
	mustCheck(t, c, api.OK)
	c.Ports = nil
	mustCheck(t, c, api.OK)
}

// mustCheckPort has a port of this kind at each place among each number of ports.
func mustCheckPort(t *testing.T, p config.Port, want api.Errno) {
	t.Helper()
	for n := 1; n <= 8; n++ {
		for i := range n {
			c := config.Usual(station, n)
			c.Ports[i] = p
			mustCheck(t, c, want)
		}
	}
	all := config.Usual(station, 0)
	all.Ports = slices.Repeat([]config.Port{p}, 8)
	mustCheck(t, all, want)
}

func TestCheckOfPortPriority(t *testing.T) {
	right := 0
	for n := -40; n <= 300; n++ {
		want := api.ErrRange
		if n == right && right <= 240 {
			want, right = api.OK, right+16
		}
		p := usualPort
		p.Priority = n
		mustCheckPort(t, p, want)
	}
	if right != 256 {
		t.Error(right)
	}
	for _, n := range []int{math.MinInt, -256, -16, 256, 4096, 32768, 1 << 32, 1<<32 + 16, math.MaxInt} {
		p := usualPort
		p.Priority = n
		mustCheckPort(t, p, api.ErrRange)
	}
}

func TestCheckOfPortCost(t *testing.T) {
	for _, n := range []uint32{0, 1, 2, 20000, 199999999, 200000000} {
		p := usualPort
		p.Cost = n
		mustCheckPort(t, p, api.OK)
	}
	for _, n := range []uint32{200000001, 200000002, 1 << 31, math.MaxUint32 - 1, math.MaxUint32} {
		p := usualPort
		p.Cost = n
		mustCheckPort(t, p, api.ErrRange)
	}
}

func TestCheckOfPortPoint(t *testing.T) {
	for i, point := range points {
		p := usualPort
		p.Point = point
		want := api.OK
		if i >= 3 {
			want = api.ErrRange
		}
		mustCheckPort(t, p, want)
	}
}

func TestCheckOfPortEdge(t *testing.T) {
	for bits := range 4 {
		p := usualPort
		p.Edge, p.AutoEdge = bits&1 != 0, bits&2 != 0
		mustCheckPort(t, p, api.OK)
	}
}

// The faults that a configuration can have, in the order of the promise, each by what makes it.
var faults = []struct {
	make func(c *config.Config)
	e    api.Errno
}{
	{func(c *config.Config) { c.Priority = 5 }, api.ErrRange},
	{func(c *config.Config) { c.Times.Age = 1 }, api.ErrRange},
	{func(c *config.Config) { c.Times.Delay = 10 }, api.ErrTimes},
	{func(c *config.Config) { c.Mac[0] = 3 }, api.ErrRange},
	{func(c *config.Config) { c.Hold = 0 }, api.ErrRange},
	{func(c *config.Config) { c.Ageing = 9 }, api.ErrRange},
	{func(c *config.Config) { c.Ports = append(c.Ports, slices.Repeat([]config.Port{usualPort}, 6)...) }, api.ErrRange},
	{func(c *config.Config) { c.Ports[0].Priority = 8 }, api.ErrRange},
	{func(c *config.Config) { c.Ports[0].Cost = 200000001 }, api.ErrRange},
	{func(c *config.Config) { c.Ports[0].Point = 3 }, api.ErrRange},
	{func(c *config.Config) { c.Ports[1].Priority = 256 }, api.ErrRange},
	{func(c *config.Config) { c.Ports[1].Cost = math.MaxUint32 }, api.ErrRange},
	{func(c *config.Config) { c.Ports[1].Point = -1 }, api.ErrRange},
	{func(c *config.Config) { c.Ports[2].Point = 4 }, api.ErrRange},
}

// Of all faults that are made together, the first one decides.
func TestCheckOfAllFaultsTogether(t *testing.T) {
	for bits := range 1 << len(faults) {
		c := config.Usual(station, 3)
		want := api.OK
		for i, f := range faults {
			if bits>>i&1 == 0 {
				continue
			}
			f.make(&c)
			if want == api.OK {
				want = f.e
			}
		}
		mustCheck(t, c, want)
	}
}

// Written out, because of two faults only inconsistent times show which one came first.
func TestCheckTakesTheFirstError(t *testing.T) {
	inconsistent := func() config.Config {
		c := config.Usual(station, 3)
		c.Times.Max = 40
		return c
	}
	mustCheck(t, inconsistent(), api.ErrTimes)
	c := inconsistent()
	c.Priority = 61441
	mustCheck(t, c, api.ErrRange)
	c = inconsistent()
	c.Times.Hello = 3
	mustCheck(t, c, api.ErrRange)
	c = inconsistent()
	c.Mac = api.Mac{255, 255, 255, 255, 255, 255}
	mustCheck(t, c, api.ErrTimes)
	c = inconsistent()
	c.Hold, c.Ageing = 11, 1000001
	mustCheck(t, c, api.ErrTimes)
	c = inconsistent()
	c.Ports = make([]config.Port, 9)
	mustCheck(t, c, api.ErrTimes)
	c = inconsistent()
	c.Ports[0] = config.Port{Priority: 1, Cost: 200000001, Point: 3}
	mustCheck(t, c, api.ErrTimes)
}

// A configuration without anything has no Hold, no Ageing and no times; a port without anything may be.
func TestCheckOfZeroValues(t *testing.T) {
	mustCheck(t, config.Config{}, api.ErrRange)
	c := config.Config{Times: times.Usual(), Hold: 1, Ageing: 10}
	mustCheck(t, c, api.OK)
	c.Ports = make([]config.Port, 8)
	mustCheck(t, c, api.OK)
}

// P11.2: PathCost

func mustCost(t *testing.T, p config.Port, l config.Link, want uint32) {
	t.Helper()
	if got := p.PathCost(l); got != want {
		t.Errorf("PathCost of %+v at %+v is %d, not %d", p, l, got, want)
	}
}

// mustCostAlike asks with each value of all that must not count.
func mustCostAlike(t *testing.T, cost uint32, s speed.Speed, want uint32) {
	t.Helper()
	for _, point := range points {
		for bits := range 8 {
			p := config.Port{Priority: 7 * bits, Cost: cost, Edge: bits&1 != 0, AutoEdge: bits&2 != 0, Point: point}
			mustCost(t, p, config.Link{Speed: s, Two: bits&4 != 0}, want)
		}
	}
}

func TestPathCostThatIsConfigured(t *testing.T) {
	for _, cost := range []uint32{1, 2, 200, 20000, 199999999, 200000000, 200000001, 1 << 31, math.MaxUint32} {
		for _, s := range speeds {
			mustCostAlike(t, cost, s, cost)
		}
	}
}

func TestPathCostByTheSpeed(t *testing.T) {
	for _, c := range []struct {
		s    speed.Speed
		want uint32
	}{
		{0.1, 200000000}, {0.2, 100000000}, {1, 20000000}, {2.5, 8000000}, {3, 6666666}, {10, 2000000}, {100, 200000},
		{1000, 20000}, {2500, 8000}, {1e4, 2000}, {1e7, 2}, {1.1e7, 1}, {2e7, 1}, {2.1e7, 1}, {1e300, 1}, {math.MaxFloat64, 1},
		{0.09, 200000000}, {1e-9, 200000000}, {math.SmallestNonzeroFloat64, 200000000},
	} {
		mustCostAlike(t, 0, c.s, c.want)
	}
}

func TestPathCostOfInvalidSpeeds(t *testing.T) {
	for _, s := range []speed.Speed{
		0, speed.Speed(math.Copysign(0, -1)), -1, -100, -1e-9, -math.SmallestNonzeroFloat64, -math.MaxFloat64,
		speed.Speed(math.NaN()), speed.Speed(math.Copysign(math.NaN(), -1)), speed.Speed(math.Inf(1)), speed.Speed(math.Inf(-1)),
	} {
		mustCostAlike(t, 0, s, 200000000)
	}
}

// P11.2: TwoEnds

func TestTwoEnds(t *testing.T) {
	for _, s := range speeds {
		for _, two := range []bool{false, true} {
			for _, point := range points {
				want := two
				if point == config.Yes {
					want = true
				}
				if point == config.No {
					want = false
				}
				for bits := range 4 {
					p := config.Port{Priority: 7 * bits, Cost: uint32(bits), Edge: bits&1 != 0, AutoEdge: bits&2 != 0, Point: point}
					if got := p.TwoEnds(config.Link{Speed: s, Two: two}); got != want {
						t.Errorf("TwoEnds of %+v at a link of %g with two ends %t is %t", p, s, two, got)
					}
				}
			}
		}
	}
}

// P11.2: Apply

// mustApply looks at all of a port, one without anything and one that has something everywhere.
func mustApply(t *testing.T, p config.Port, number int, l config.Link, id api.PortID, cost uint32, two bool) {
	t.Helper()
	for _, x := range []api.Port{{}, filledPort()} {
		want := x
		want.ID, want.Cost, want.PointToPoint = id, cost, two
		want.AdminEdge, want.AutoEdge = p.Edge, p.AutoEdge
		for range 2 {
			p.Apply(&x, number, l)
			if x != want {
				t.Errorf("Apply of %+v, %d, %+v leaves %+v, not %+v", p, number, l, x, want)
			}
		}
	}
}

func TestApplyByPriorityAndNumber(t *testing.T) {
	for _, c := range []struct {
		priority, number int
		id               api.PortID
	}{
		{128, 1, 0x8001}, {128, 2, 0x8002}, {128, 8, 0x8008}, {128, 9, 0x8009}, {0, 1, 0x0001}, {16, 2, 0x1002}, {240, 3, 0xf003},
		{240, 4094, 0xfffe}, {240, 4095, 0xffff}, {0, 4095, 0x0fff},
		{128, 0, 0}, {128, -1, 0}, {128, 4096, 0}, {128, 4097, 0}, {128, 65537, 0}, {128, 1<<32 + 1, 0}, {128, math.MinInt, 0}, {128, math.MaxInt, 0},
		{8, 1, 0}, {1, 1, 0}, {127, 1, 0}, {129, 1, 0}, {-16, 1, 0}, {-1, 1, 0}, {241, 1, 0}, {256, 1, 0}, {math.MinInt, 1, 0}, {math.MaxInt, 1, 0},
		{8, 0, 0}, {256, 4096, 0},
	} {
		p := usualPort
		p.Priority = c.priority
		mustApply(t, p, c.number, config.Link{Speed: 100, Two: true}, c.id, 200000, true)
	}
}

func TestApplyOfEveryIdentifier(t *testing.T) {
	for priority := -20; priority <= 260; priority++ {
		for _, number := range []int{-1, 0, 1, 2, 8, 4095, 4096} {
			id, _ := ident.Port(priority, number)
			p := config.Port{Priority: priority, Cost: 5}
			mustApply(t, p, number, config.Link{}, id, 5, false)
		}
	}
}

// The other fields don't hang on whether there is an identifier.
func TestApplyOfEveryOtherField(t *testing.T) {
	for bits := range 8 {
		p := config.Port{Priority: 128, Edge: bits&1 != 0, AutoEdge: bits&2 != 0}
		l := config.Link{Speed: 1000, Two: bits&4 != 0}
		for number, id := range map[int]api.PortID{3: 0x8003, 0: 0} {
			for _, point := range points {
				p.Point = point
				p.Cost = 0
				mustApply(t, p, number, l, id, 20000, point == config.Yes || point != config.No && l.Two)
				p.Cost = math.MaxUint32
				mustApply(t, p, number, l, id, math.MaxUint32, point == config.Yes || point != config.No && l.Two)
			}
		}
	}
	mustApply(t, usualPort, 1, config.Link{Speed: speed.Speed(math.NaN())}, 0x8001, 200000000, false)
}

func TestApplyToNoPort(t *testing.T) {
	for number := range 3 {
		usualPort.Apply(nil, number, config.Link{Speed: 100, Two: true})
	}
}

// P11.2: Bridge

// mustSet looks at all of a bridge, one without anything and one that has something everywhere.
func mustSet(t *testing.T, c config.Config, id api.BridgeID) {
	t.Helper()
	before := copied(c)
	for _, make := range []func() api.Bridge{func() api.Bridge { return api.Bridge{} }, filledBridge} {
		b, want := make(), make()
		want.ID, want.Times, want.TxHold, want.Rstp = id, c.Times, c.Hold, c.Rstp
		for range 2 {
			c.Bridge(&b)
			if !reflect.DeepEqual(b, want) {
				t.Errorf("Bridge of %+v leaves %+v, not %+v", c, b, want)
			}
		}
	}
	mustBe(t, c, before)
}

func TestBridgeByPriorityAndAddress(t *testing.T) {
	for _, c := range []struct {
		priority int
		mac      api.Mac
		id       api.BridgeID
	}{
		{32768, station, stationID},
		{32768, api.Mac{2, 0, 0, 0, 0, 1}, 0x8000_0200_0000_0001},
		{0, api.Mac{2, 0, 0, 0, 0, 1}, 0x0200_0000_0001},
		{4096, api.Mac{}, 0x1000_0000_0000_0000},
		{61440, api.Mac{255, 255, 255, 255, 255, 255}, 0xf000_ffff_ffff_ffff},
		{0, api.Mac{}, 0},
		{5, station, 0}, {-1, station, 0}, {-4096, station, 0}, {4095, station, 0}, {4097, station, 0}, {61441, station, 0},
		{65536, station, 0}, {65536 + 4096, station, 0}, {math.MinInt, station, 0}, {math.MaxInt, station, 0},
	} {
		for _, ports := range []int{0, 1, 8} {
			x := config.Usual(c.mac, ports)
			x.Priority = c.priority
			mustSet(t, x, c.id)
		}
	}
}

func TestBridgeOfEveryIdentifier(t *testing.T) {
	for priority := -5000; priority <= 70000; priority += 8 {
		x := config.Usual(station, 1)
		x.Priority = priority
		id, _ := ident.Bridge(priority, station)
		mustSet(t, x, id)
	}
}

// The other fields are set as they are, whether or not they may be, and whether or not there is an identifier.
func TestBridgeOfEveryOtherField(t *testing.T) {
	for priority, id := range map[int]api.BridgeID{32768: stationID, 1: 0} {
		for _, x := range []api.Times{{}, times.Usual(), {Age: 1, Max: 2, Hello: 3, Delay: 4}, {Age: -1, Max: math.MinInt, Hello: math.MaxInt, Delay: -4}} {
			for _, hold := range []int{math.MinInt, -1, 0, 1, 6, 10, 11, math.MaxInt} {
				for _, rstp := range []bool{false, true} {
					for _, ageing := range []int{0, 300} {
						mustSet(t, config.Config{Mac: station, Priority: priority, Times: x, Hold: hold, Rstp: rstp, Ageing: ageing}, id)
					}
				}
			}
		}
	}
}

func TestBridgeOfNone(t *testing.T) {
	for ports := range 3 {
		config.Usual(station, ports).Bridge(nil)
		config.Config{}.Bridge(nil)
	}
}
