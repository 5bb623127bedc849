package times_test

import (
	"math"
	"testing"

	"catenary/api"
	"catenary/times"
)

// The ends of the seconds that Older and Lives take.
const (
	least = -1 << 31
	most  = 1 << 31
)

func mustCheck(t *testing.T, x api.Times, want api.Errno) {
	t.Helper()
	if e := times.Check(x); e != want {
		t.Errorf("Check(%+v) returns %d, not %d", x, e, want)
	}
}

func TestUnitAndLimits(t *testing.T) {
	if times.Unit != 256 {
		t.Error(times.Unit)
	}
	if times.MinMax != 6 || times.UsualMax != 20 || times.MaxMax != 40 {
		t.Error(times.MinMax, times.UsualMax, times.MaxMax)
	}
	if times.MinHello != 1 || times.UsualHello != 2 || times.MaxHello != 2 {
		t.Error(times.MinHello, times.UsualHello, times.MaxHello)
	}
	if times.MinDelay != 4 || times.UsualDelay != 15 || times.MaxDelay != 30 {
		t.Error(times.MinDelay, times.UsualDelay, times.MaxDelay)
	}
}

// P6.1: Usual

func TestUsual(t *testing.T) {
	if x := times.Usual(); x != (api.Times{Age: 0, Max: 20, Hello: 2, Delay: 15}) {
		t.Error(x)
	}
	mustCheck(t, times.Usual(), api.OK)
}

// P6.1: Check

func TestCheckAtTheEndsOfEachRange(t *testing.T) {
	for _, c := range []struct {
		x    api.Times
		want api.Errno
	}{
		{api.Times{Age: -1, Max: 20, Hello: 2, Delay: 15}, api.ErrRange},
		{api.Times{Age: 0, Max: 20, Hello: 2, Delay: 15}, api.OK},
		{api.Times{Age: 1, Max: 20, Hello: 2, Delay: 15}, api.ErrRange},

		{api.Times{Max: 5, Hello: 1, Delay: 15}, api.ErrRange},
		{api.Times{Max: 6, Hello: 1, Delay: 15}, api.OK},
		{api.Times{Max: 7, Hello: 1, Delay: 15}, api.OK},
		{api.Times{Max: 39, Hello: 2, Delay: 30}, api.OK},
		{api.Times{Max: 40, Hello: 2, Delay: 30}, api.OK},
		{api.Times{Max: 41, Hello: 2, Delay: 30}, api.ErrRange},

		{api.Times{Max: 20, Hello: -1, Delay: 15}, api.ErrRange},
		{api.Times{Max: 20, Hello: 0, Delay: 15}, api.ErrRange},
		{api.Times{Max: 20, Hello: 1, Delay: 15}, api.OK},
		{api.Times{Max: 20, Hello: 2, Delay: 15}, api.OK},
		{api.Times{Max: 20, Hello: 3, Delay: 15}, api.ErrRange},

		{api.Times{Max: 6, Hello: 2, Delay: 3}, api.ErrRange},
		{api.Times{Max: 6, Hello: 2, Delay: 4}, api.OK},
		{api.Times{Max: 6, Hello: 2, Delay: 5}, api.OK},
		{api.Times{Max: 20, Hello: 2, Delay: 29}, api.OK},
		{api.Times{Max: 20, Hello: 2, Delay: 30}, api.OK},
		{api.Times{Max: 20, Hello: 2, Delay: 31}, api.ErrRange},
	} {
		mustCheck(t, c.x, c.want)
	}
}

// Times in range, of which 2 (Delay - 1) is Max, and one less or one more.
func TestCheckOfMaxAndDelay(t *testing.T) {
	for delay := 4; delay <= 21; delay++ {
		for hello := 1; hello <= 2; hello++ {
			equal := 2 * (delay - 1)
			mustCheck(t, api.Times{Max: equal, Hello: hello, Delay: delay}, api.OK)
			if equal > 6 {
				mustCheck(t, api.Times{Max: equal - 1, Hello: hello, Delay: delay}, api.OK)
			}
			if equal < 40 {
				mustCheck(t, api.Times{Max: equal + 1, Hello: hello, Delay: delay}, api.ErrTimes)
				mustCheck(t, api.Times{Max: 40, Hello: hello, Delay: delay}, api.ErrTimes)
			}
		}
	}
}

// Max is 2 (Hello + 1) in range only as 6, for the Hello 2; one less is below the range, and so is 4, for the Hello 1.
func TestCheckOfMaxAndHello(t *testing.T) {
	for delay := 4; delay <= 30; delay++ {
		mustCheck(t, api.Times{Max: 6, Hello: 2, Delay: delay}, api.OK)
		mustCheck(t, api.Times{Max: 5, Hello: 2, Delay: delay}, api.ErrRange)
		mustCheck(t, api.Times{Max: 6, Hello: 1, Delay: delay}, api.OK)
		mustCheck(t, api.Times{Max: 4, Hello: 1, Delay: delay}, api.ErrRange)
		mustCheck(t, api.Times{Max: 3, Hello: 1, Delay: delay}, api.ErrRange)
	}
}

func TestCheckOfSeveralOutOfRange(t *testing.T) {
	for _, x := range []api.Times{
		{},
		{Age: 1, Max: 41, Hello: 3, Delay: 31},
		{Age: -1, Max: 5, Hello: 0, Delay: 3},
		{Age: 1, Max: 20, Hello: 3, Delay: 15},
		{Max: 41, Hello: 0, Delay: 15},
		{Max: 5, Hello: 2, Delay: 31},
		{Max: 20, Hello: -2, Delay: -15},
		{Max: -20, Hello: 2, Delay: -9},
	} {
		mustCheck(t, x, api.ErrRange)
	}
}

// Times that aren't consistent either: the range comes first.
func TestCheckOfNeitherInRangeNorConsistent(t *testing.T) {
	for _, x := range []api.Times{
		{Age: 1, Max: 40, Hello: 2, Delay: 20},
		{Age: -1, Max: 20, Hello: 2, Delay: 4},
		{Max: 41, Hello: 2, Delay: 20},
		{Max: 40, Hello: 3, Delay: 20},
		{Max: 40, Hello: 0, Delay: 20},
		{Max: 6, Hello: 2, Delay: 3},
		{Max: 40, Hello: 2, Delay: 3},
		{Max: 20, Hello: 10, Delay: 15},
		{Max: 6, Hello: 3, Delay: 15},
		{Max: 5, Hello: 2, Delay: 15},
	} {
		mustCheck(t, x, api.ErrRange)
	}
}

// checkAgain returns what Check has to return, with the limits written out.
func checkAgain(x api.Times) api.Errno {
	if x.Age != 0 || x.Max < 6 || x.Max > 40 || x.Hello < 1 || x.Hello > 2 || x.Delay < 4 || x.Delay > 30 {
		return api.ErrRange
	}
	if x.Max > x.Delay+x.Delay-2 || x.Max < x.Hello+x.Hello+2 {
		return api.ErrTimes
	}
	return api.OK
}

func TestCheckOfAllNearTimes(t *testing.T) {
	for age := -2; age <= 2; age++ {
		for seconds := -3; seconds <= 45; seconds++ {
			for hello := -2; hello <= 5; hello++ {
				for delay := -3; delay <= 35; delay++ {
					x := api.Times{Age: age, Max: seconds, Hello: hello, Delay: delay}
					mustCheck(t, x, checkAgain(x))
				}
			}
		}
	}
}

// Numbers whose lowest bits alone would be in range, and the ends of their kind.
func TestCheckOfFarTimes(t *testing.T) {
	usual := api.Times{Max: 20, Hello: 2, Delay: 15}
	for _, far := range []int{math.MinInt, math.MinInt + 1, least, -1 << 32, 1 << 8, 1 << 16, most, 1 << 32, 1 << 62, math.MaxInt - 14, math.MaxInt} {
		for _, near := range []int{0, 1, 2, 15, 20} {
			n := far + near
			for _, x := range []api.Times{
				{Age: n, Max: usual.Max, Hello: usual.Hello, Delay: usual.Delay},
				{Max: n, Hello: usual.Hello, Delay: usual.Delay},
				{Max: usual.Max, Hello: n, Delay: usual.Delay},
				{Max: usual.Max, Hello: usual.Hello, Delay: n},
				{Age: n, Max: n, Hello: n, Delay: n},
			} {
				mustCheck(t, x, api.ErrRange)
			}
		}
	}
}

// P6.1: Put

func mustPut(t *testing.T, x api.Times, want [4]uint16) {
	t.Helper()
	age, greatest, hello, delay := times.Put(x)
	if got := [4]uint16{age, greatest, hello, delay}; got != want {
		t.Errorf("Put(%+v) returns %d, not %d", x, got, want)
	}
}

func TestPutWrittenOut(t *testing.T) {
	mustPut(t, api.Times{}, [4]uint16{})
	mustPut(t, api.Times{Max: 20, Hello: 2, Delay: 15}, [4]uint16{0, 5120, 512, 3840})
	mustPut(t, api.Times{Age: 1, Max: 2, Hello: 3, Delay: 4}, [4]uint16{256, 512, 768, 1024})
	mustPut(t, api.Times{Age: -1, Max: 0, Hello: 255, Delay: 256}, [4]uint16{0, 0, 65280, 65280})
	mustPut(t, api.Times{Age: 256, Max: -1, Hello: 0, Delay: 255}, [4]uint16{65280, 0, 0, 65280})
	mustPut(t, api.Times{Age: 255, Max: 256, Hello: -1, Delay: 0}, [4]uint16{65280, 65280, 0, 0})
	mustPut(t, api.Times{Age: 0, Max: 255, Hello: 256, Delay: -1}, [4]uint16{0, 65280, 65280, 0})
	mustPut(t, api.Times{Age: 254, Max: 254, Hello: 254, Delay: 254}, [4]uint16{65024, 65024, 65024, 65024})
}

// unitsOf returns the units of seconds, one second after the other.
func unitsOf(seconds int) uint16 {
	n := uint16(0)
	for s := 1; s <= seconds && s <= 255; s++ {
		n += 256
	}
	return n
}

// mustPutEach holds each of the four against its units, beside others that differ.
func mustPutEach(t *testing.T, s int) {
	t.Helper()
	n := unitsOf(s)
	mustPut(t, api.Times{Age: s, Max: 1, Hello: 2, Delay: 3}, [4]uint16{n, 256, 512, 768})
	mustPut(t, api.Times{Age: 1, Max: s, Hello: 2, Delay: 3}, [4]uint16{256, n, 512, 768})
	mustPut(t, api.Times{Age: 1, Max: 2, Hello: s, Delay: 3}, [4]uint16{256, 512, n, 768})
	mustPut(t, api.Times{Age: 1, Max: 2, Hello: 3, Delay: s}, [4]uint16{256, 512, 768, n})
}

func TestPutOfEachSecond(t *testing.T) {
	for s := -600; s <= 600; s++ {
		mustPutEach(t, s)
	}
}

func TestPutOfFarSeconds(t *testing.T) {
	for _, s := range []int{
		math.MinInt, math.MinInt + 1, -1 << 56, -1 << 32, least, -65536, -257, 1 << 16, 1<<16 + 1, most, 1 << 32, 1<<32 + 1, 1 << 55, 1<<56 + 1, math.MaxInt - 1, math.MaxInt,
	} {
		mustPutEach(t, s)
	}
}

// P6.1: Of

func mustOf(t *testing.T, b api.BPDU, want api.Times) {
	t.Helper()
	if got := times.Of(b); got != want {
		t.Errorf("Of(%+v) returns %+v, not %+v", b, got, want)
	}
}

func TestOfWrittenOut(t *testing.T) {
	for _, c := range []struct {
		units              uint16
		up, down, hasHello int
	}{
		{0, 0, 0, 1}, {1, 1, 0, 1}, {255, 1, 0, 1}, {256, 1, 1, 1}, {257, 2, 1, 1},
		{511, 2, 1, 1}, {512, 2, 2, 2}, {513, 3, 2, 2}, {5120, 20, 20, 20}, {5375, 21, 20, 20},
		{65279, 255, 254, 254}, {65280, 255, 255, 255}, {65281, 256, 255, 255}, {65534, 256, 255, 255}, {65535, 256, 255, 255},
	} {
		n := c.units
		mustOf(t, api.BPDU{Age: n, Max: n, Hello: n, Delay: n}, api.Times{Age: c.up, Max: c.down, Hello: c.hasHello, Delay: c.down})
		mustOf(t, api.BPDU{Age: n, Max: 256, Hello: 512, Delay: 768}, api.Times{Age: c.up, Max: 1, Hello: 2, Delay: 3})
		mustOf(t, api.BPDU{Age: 256, Max: n, Hello: 512, Delay: 768}, api.Times{Age: 1, Max: c.down, Hello: 2, Delay: 3})
		mustOf(t, api.BPDU{Age: 256, Max: 512, Hello: n, Delay: 768}, api.Times{Age: 1, Max: 2, Hello: c.hasHello, Delay: 3})
		mustOf(t, api.BPDU{Age: 256, Max: 512, Hello: 768, Delay: n}, api.Times{Age: 1, Max: 2, Hello: 3, Delay: c.down})
	}
}

func TestOfEveryNumberOfUnits(t *testing.T) {
	seconds, begun := 0, 0
	for n := range 65536 {
		if n%256 == 1 {
			begun++
		}
		if n > 0 && n%256 == 0 {
			seconds++
		}
		hello := seconds
		if n < 256 {
			hello = 1
		}
		u := uint16(n)
		mustOf(t, api.BPDU{Age: u, Max: u, Hello: u, Delay: u}, api.Times{Age: begun, Max: seconds, Hello: hello, Delay: seconds})
	}
}

// A message's times are its own, whatever else it is.
func TestOfWhateverElseIsInTheMessage(t *testing.T) {
	want := api.Times{Age: 2, Max: 20, Hello: 2, Delay: 15}
	for _, kind := range []api.Kind{api.NoBPDU, api.Config, api.TCN, api.RST, -1, 4} {
		for _, flags := range []byte{0, api.FlagTc, 0x7c, 255} {
			vector := api.Vector{Root: math.MaxUint64, Cost: math.MaxUint32, Bridge: 1, Port: 0x8001}
			mustOf(t, api.BPDU{Kind: kind, Flags: flags, Vector: vector, Age: 257, Max: 5120, Hello: 512, Delay: 3840}, want)
		}
	}
}

// What was put is read again, as far as it fits in two bytes, with a Hello of at least one.
func TestOfWhatWasPut(t *testing.T) {
	for s := -3; s <= 300; s++ {
		age, greatest, hello, delay := times.Put(api.Times{Age: s, Max: s, Hello: s, Delay: s})
		kept := min(max(s, 0), 255)
		mustOf(t, api.BPDU{Age: age, Max: greatest, Hello: hello, Delay: delay}, api.Times{Age: kept, Max: kept, Hello: max(kept, 1), Delay: kept})
	}
}

// P6.1: Older

func TestOlder(t *testing.T) {
	for _, age := range []int{least, least + 1, -257, -2, -1, 0, 1, 2, 19, 20, 21, 254, 255, 256, 65535, 1<<31 - 2, 1<<31 - 1, most} {
		for _, rest := range []api.Times{{}, {Max: 20, Hello: 2, Delay: 15}, {Max: -1, Hello: -2, Delay: -3}, {Max: least, Hello: most, Delay: least}, {Max: most, Hello: least, Delay: most}} {
			given := rest
			given.Age = age
			got := times.Older(given)
			if got.Age-age != 1 || got.Max != rest.Max || got.Hello != rest.Hello || got.Delay != rest.Delay {
				t.Errorf("Older(%+v) returns %+v", given, got)
			}
		}
	}
	usual := times.Usual()
	if times.Older(usual); usual != times.Usual() {
		t.Error("Older changes what it is given:", usual)
	}
	if twice := times.Older(times.Older(usual)); twice != (api.Times{Age: 2, Max: 20, Hello: 2, Delay: 15}) {
		t.Error(twice)
	}
}

// P6.2

func mustLive(t *testing.T, x api.Times, hello, want int) {
	t.Helper()
	if got := times.Lives(x, hello); got != want {
		t.Errorf("Lives(%+v, %d) returns %d, not %d", x, hello, got, want)
	}
}

// An Age equal to Max, one less and one more.
func TestLivesByItsAge(t *testing.T) {
	for greatest := -3; greatest <= 45; greatest++ {
		mustLive(t, api.Times{Age: greatest - 1, Max: greatest}, 2, 6)
		mustLive(t, api.Times{Age: greatest, Max: greatest}, 2, 0)
		mustLive(t, api.Times{Age: greatest + 1, Max: greatest}, 2, 0)
	}
	mustLive(t, times.Usual(), 2, 6)
	mustLive(t, api.Times{}, 2, 0)
	mustLive(t, api.Times{Age: 255, Max: 6}, 2, 0)
	mustLive(t, api.Times{Age: -1}, 2, 6)
}

// The hello that counts is the one that is passed, not that of the times.
func TestLivesByItsHello(t *testing.T) {
	for _, own := range []int{-1, 0, 1, 2, 7} {
		for hello := -10; hello <= 300; hello++ {
			x := api.Times{Age: 1, Max: 20, Hello: own, Delay: 15}
			mustLive(t, x, hello, hello+hello+hello)
			x.Age = 20
			mustLive(t, x, hello, 0)
		}
	}
}

func TestLivesOfFarSeconds(t *testing.T) {
	for _, hello := range []int{least, least + 1, -1, 0, 1, most - 1, most} {
		three := hello + hello + hello
		mustLive(t, api.Times{Age: least, Max: most}, hello, three)
		mustLive(t, api.Times{Age: least, Max: least + 1}, hello, three)
		mustLive(t, api.Times{Age: most - 1, Max: most}, hello, three)
		mustLive(t, api.Times{Age: -1, Max: 0, Hello: most, Delay: least}, hello, three)
		mustLive(t, api.Times{Age: most, Max: least}, hello, 0)
		mustLive(t, api.Times{Age: least, Max: least}, hello, 0)
		mustLive(t, api.Times{Age: most, Max: most}, hello, 0)
		mustLive(t, api.Times{Age: least + 1, Max: least}, hello, 0)
		mustLive(t, api.Times{Age: most, Max: most - 1}, hello, 0)
	}
	mustLive(t, api.Times{Max: 20}, most, 6442450944)
	mustLive(t, api.Times{Max: 20}, least, -6442450944)
}

// Times that get older pass Max once, and never count again.
func TestLivesOfOlderTimes(t *testing.T) {
	x := times.Usual()
	for bridges := range 60 {
		want := 6
		if bridges >= 20 {
			want = 0
		}
		mustLive(t, x, x.Hello, want)
		x = times.Older(x)
	}
}
