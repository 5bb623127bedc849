package command_test

import (
	"math"
	"reflect"
	"regexp"
	"slices"
	"strconv"
	"strings"
	"testing"

	"catenary/addr"
	"catenary/api"
	"catenary/command"
	"catenary/config"
	"catenary/times"
)

// most is the greatest number that a command has, and longest how many bytes its text may have.
const (
	most    = 1073741824
	longest = 80
)

// station is an address that a bridge may have; no two of its bytes are equal.
var station = api.Mac{2, 0x13, 0x35, 0x57, 0x79, 0x9b}

// kinds are all of them, in order.
var kinds = []command.What{
	command.Priority, command.Max, command.Hello, command.Delay, command.Hold, command.Mode, command.Ageing,
	command.PortPriority, command.PortCost, command.PortEdge, command.PortAuto, command.PortLink,
	command.Fix, command.Forget, command.Check,
}

// fields are those of a command that count for each kind: its Port, its N, as a number or as a link, its On, and its Mac.
var fields = map[command.What]string{
	command.Priority: "N", command.Max: "N", command.Hello: "N", command.Delay: "N", command.Hold: "N", command.Mode: "O", command.Ageing: "N",
	command.PortPriority: "PN", command.PortCost: "PN", command.PortEdge: "PO", command.PortAuto: "PO", command.PortLink: "PL",
	command.Fix: "MN", command.Forget: "M", command.Check: "P",
}

// heads are what the texts of each kind begin with.
var heads = map[command.What]string{
	command.Priority: "priority", command.Max: "max", command.Hello: "hello", command.Delay: "delay", command.Hold: "hold",
	command.Mode: "rstp", command.Ageing: "ageing",
	command.PortPriority: "port priority", command.PortCost: "port cost", command.PortEdge: "port edge", command.PortAuto: "port auto", command.PortLink: "port link",
	command.Fix: "fix", command.Forget: "forget", command.Check: "port check",
}

// numbers are in the range of a command, with both of its ends.
var numbers = []int{0, 1, 2, 3, 8, 9, 10, 11, 99, 100, 128, 4096, 65535, 65536, 200000000, 200000001, 999999999, 1000000000, 1 << 20, most - 1, most}

// beyond are out of that range.
var beyond = []int{-1, -2, -10, -most, most + 1, most + 2, 2 * most, 1 << 31, 1 << 32, 1<<32 + 1, 1 << 62, math.MinInt, math.MaxInt}

// macs are addresses of all sorts.
var macs = []api.Mac{{}, station, {0, 0, 0, 0, 0, 1}, {2}, addr.Group(), addr.All(), {0x0a, 0xb0, 0, 0xff, 9, 0x90}}

// pair is a command, and its text.
type pair struct {
	c command.Command
	s string
}

// pairs returns, for a kind, commands with all values of each field that counts, and their texts.
func pairs(what command.What) []pair {
	l := []pair{{command.Command{What: what}, heads[what]}}
	for _, field := range fields[what] {
		var longer []pair
		for _, p := range l {
			longer = append(longer, extended(p, field)...)
		}
		l = longer
	}
	return l
}

// extended returns a command, and its text, with each value of one field more.
func extended(p pair, field rune) []pair {
	var l []pair
	add := func(word string, set func(c *command.Command)) {
		x := pair{p.c, p.s + " " + word}
		set(&x.c)
		l = append(l, x)
	}
	switch field {
	case 'P':
		for _, n := range numbers {
			add(strconv.Itoa(n), func(c *command.Command) { c.Port = n })
		}
	case 'N':
		for _, n := range numbers {
			add(strconv.Itoa(n), func(c *command.Command) { c.N = n })
		}
	case 'L':
		for n, word := range []string{"auto", "two", "many"} {
			add(word, func(c *command.Command) { c.N = n })
		}
	case 'O':
		add("off", func(c *command.Command) { c.On = false })
		add("on", func(c *command.Command) { c.On = true })
	case 'M':
		for _, m := range macs {
			add(addr.Text(m), func(c *command.Command) { c.Mac = m })
		}
	}
	return l
}

// example returns a command of a kind in which each field that counts is not zero, and its text.
func example(what command.What) pair {
	p := pair{command.Command{What: what}, heads[what]}
	for _, field := range fields[what] {
		switch field {
		case 'P':
			p.c.Port, p.s = 3, p.s+" 3"
		case 'N':
			p.c.N, p.s = 5, p.s+" 5"
		case 'L':
			p.c.N, p.s = 2, p.s+" many"
		case 'O':
			p.c.On, p.s = true, p.s+" on"
		case 'M':
			p.c.Mac, p.s = station, p.s+" 02:13:35:57:79:9b"
		}
	}
	return p
}

// texted asks for the text of a command that has one.
func texted(t *testing.T, c command.Command) string {
	t.Helper()
	s, e := c.Text()
	if e != api.OK {
		t.Errorf("Text of %+v returns %d", c, e)
	}
	return s
}

func mustPair(t *testing.T, c command.Command, s string) {
	t.Helper()
	for range 2 {
		if got, e := command.Parse(s); got != c || e != api.OK {
			t.Errorf("Parse(%q) returns %+v, %d, not %+v", s, got, e, c)
		}
		if got, e := c.Text(); got != s || e != api.OK {
			t.Errorf("Text of %+v returns %q, %d, not %q", c, got, e, s)
		}
	}
}

func mustNotParse(t *testing.T, s string) {
	t.Helper()
	if c, e := command.Parse(s); c != (command.Command{}) || e != api.ErrForm {
		t.Errorf("Parse(%q) returns %+v, %d, not no command and ErrForm", s, c, e)
	}
}

func mustHaveNoText(t *testing.T, c command.Command) {
	t.Helper()
	if s, e := c.Text(); s != "" || e != api.ErrArg {
		t.Errorf("Text of %+v returns %q, %d, not no text and ErrArg", c, s, e)
	}
}

func TestKinds(t *testing.T) {
	if len(kinds) != 15 || len(fields) != 15 || len(heads) != 15 {
		t.Error(len(kinds), len(fields), len(heads))
	}
	for i, what := range kinds {
		if int(what) != i {
			t.Errorf("kind %d is %d", i, what)
		}
	}
}

// P12.1: Parse and Text, there and back

// Written out, so that it hangs on no rule of this test by which texts are made.
func TestTextsWrittenOut(t *testing.T) {
	m := api.Mac{2, 0, 0, 0, 0, 9}
	for _, p := range []pair{
		{command.Command{}, "priority 0"},
		{command.Command{What: 0, N: 32768}, "priority 32768"},
		{command.Command{What: 1, N: 20}, "max 20"},
		{command.Command{What: 2, N: 2}, "hello 2"},
		{command.Command{What: 3, N: 15}, "delay 15"},
		{command.Command{What: 4, N: 6}, "hold 6"},
		{command.Command{What: 5, On: true}, "rstp on"},
		{command.Command{What: 5}, "rstp off"},
		{command.Command{What: 6, N: 300}, "ageing 300"},
		{command.Command{What: 7, Port: 1, N: 128}, "port priority 1 128"},
		{command.Command{What: 8, Port: 2, N: 20000}, "port cost 2 20000"},
		{command.Command{What: 9, Port: 3, On: true}, "port edge 3 on"},
		{command.Command{What: 9, Port: 3}, "port edge 3 off"},
		{command.Command{What: 10, Port: 4, On: true}, "port auto 4 on"},
		{command.Command{What: 10, Port: 4}, "port auto 4 off"},
		{command.Command{What: 11, Port: 5}, "port link 5 auto"},
		{command.Command{What: 11, Port: 6, N: 1}, "port link 6 two"},
		{command.Command{What: 11, Port: 7, N: 2}, "port link 7 many"},
		{command.Command{What: 12, Mac: m, N: 5}, "fix 02:00:00:00:00:09 5"},
		{command.Command{What: 12}, "fix 00:00:00:00:00:00 0"},
		{command.Command{What: 13, Mac: m}, "forget 02:00:00:00:00:09"},
		{command.Command{What: 14, Port: 8}, "port check 8"},
		{command.Command{What: 14}, "port check 0"},
		{command.Command{What: 7, Port: most, N: most}, "port priority 1073741824 1073741824"},
	} {
		mustPair(t, p.c, p.s)
	}
}

func TestEachKindThereAndBack(t *testing.T) {
	for _, what := range kinds {
		l := pairs(what)
		for _, p := range append(l, example(what)) {
			mustPair(t, p.c, p.s)
		}
		if len(l) == 0 {
			t.Errorf("kind %d has no pairs", what)
		}
	}
}

// P12.1: Parse, texts of nothing

// mustNotParseInPlace puts a word into each place of the examples where a field of one sort is.
func mustNotParseInPlace(t *testing.T, sorts, word string) {
	t.Helper()
	for _, what := range kinds {
		for i, field := range fields[what] {
			if !strings.ContainsRune(sorts, field) {
				continue
			}
			words := strings.Split(example(what).s, " ")
			words[len(words)-len(fields[what])+i] = word
			mustNotParse(t, strings.Join(words, " "))
		}
	}
}

func TestParseOfNumbersThatAreNone(t *testing.T) {
	for _, word := range []string{
		"1073741825", "1073741826", "1073741834", "1073741924", "1999999999", "2000000000", "2147483647", "2147483648", "4294967295", "4294967296", "4294967297",
		"10737418240", "9223372036854775807", "9223372036854775808", "18446744073709551615", "18446744073709551616", "18446744073709551617",
		"99999999999999999999", strings.Repeat("9", 50), strings.Repeat("1", 60), "1" + strings.Repeat("0", 60),
		"00", "01", "05", "000", "0000000005", "01073741824", "-0", "-1", "-5", "-1073741824", "--5", "+0", "+5", "+1073741824", "++5",
		"", "-", "+", ".", "_", "n", "N", "P", "x5", "5x", "5.", ".5", "5.0", "5,", "5e0", "5e3", "1_000", "0x5", "0b1", "0o7", "0_1", "a", "f", "five", "on", "off", "auto", "two",
		"5\x00", "\x005", "5\n", "5\r", "\t5", "5\t", "5\u00a0", "\u0665", "\uff15", "5\xff", "/", ":", "5:", "1/", "NaN", "Inf", "nil", "%35", "5;",
	} {
		mustNotParseInPlace(t, "PN", word)
	}
	for _, n := range beyond {
		mustNotParseInPlace(t, "PN", strconv.Itoa(n))
	}
}

func TestParseOfOtherWordsThanOnAndOff(t *testing.T) {
	for _, word := range []string{
		"", "o", "of", "offf", "onn", "no", "On", "ON", "Off", "OFF", "oN", "O", "yes", "true", "false", "0", "1", "t", "f", "T", "auto", "two", "many",
		"on\x00", "on\n", "\ton", "on\u00a0", "o\u0274", "on,", "off.", "on off",
	} {
		mustNotParseInPlace(t, "O", word)
	}
}

func TestParseOfOtherWordsThanLinks(t *testing.T) {
	for _, word := range []string{
		"", "aut", "autoo", "tw", "twoo", "man", "manyy", "Auto", "AUTO", "Two", "TWO", "Many", "MANY", "L", "yes", "no", "on", "off", "0", "1", "2", "3", "-1",
		"one", "three", "auto\x00", "two\n", "\tmany", "auto\u00a0", "a", "t", "m", "auto two",
	} {
		mustNotParseInPlace(t, "L", word)
	}
}

func TestParseOfAddressesThatAreNone(t *testing.T) {
	for _, word := range []string{
		"", "M", "02", "02:00", "02:13:35:57:79", "02:13:35:57:79:9b:00", "02:13:35:57:79:9", "2:13:35:57:79:9b", "02:13:35:57:79:9B", "0A:13:35:57:79:9b",
		"02-13-35-57-79-9b", "021335577 99b", "02133557799b", "02:13:35:57:79:9g", "02:13:35:57:79:9b:", ":02:13:35:57:79:9b", "02:13:35:57:79:9b\x00",
		"02:13:35:57:79: b", "02:13:35:57:79:+b", "5", "on", "auto", "8000-02:00:00:00:00:01",
	} {
		mustNotParseInPlace(t, "M", word)
	}
}

// Each word of each example goes, or comes twice, or gets a neighbour.
func TestParseOfTooFewAndTooManyWords(t *testing.T) {
	for _, s := range []string{"", " ", "  ", "port", "P", "N", "0", "5", "on"} {
		mustNotParse(t, s)
	}
	for _, what := range kinds {
		s := example(what).s
		words := strings.Split(s, " ")
		mustNotParse(t, heads[what])
		for i := range words {
			mustNotParse(t, strings.Join(words[:i], " "))
			mustNotParse(t, strings.Join(slices.Delete(slices.Clone(words), i, i+1), " "))
			for _, more := range append([]string{words[i], "5", "0", "on", "auto", "port", "x", "02:13:35:57:79:9b", ""}, heads[what]) {
				mustNotParse(t, strings.Join(slices.Insert(slices.Clone(words), i, more), " "))
				mustNotParse(t, s+" "+more)
			}
		}
	}
}

func TestParseOfBlanks(t *testing.T) {
	for _, what := range kinds {
		s := example(what).s
		for _, c := range s {
			if c == ' ' {
				for _, other := range []string{"  ", "   ", "\t", " \t", "\t ", "\n", "\r\n", "\v", "\f", "\x00", "\u00a0", "\u2003", "", ".", "_", ":", ","} {
					mustNotParse(t, strings.Replace(s, " ", other, 1))
					last := strings.LastIndex(s, " ")
					mustNotParse(t, s[:last]+other+s[last+1:])
					mustNotParse(t, strings.ReplaceAll(s, " ", other))
				}
			}
		}
		for _, other := range []string{" ", "  ", "\t", "\n", "\r\n", "\v", "\f", "\x00", "\u00a0", ".", ";", "#"} {
			mustNotParse(t, other+s)
			mustNotParse(t, s+other)
			mustNotParse(t, other+s+other)
		}
	}
}

func TestParseOfOtherHeads(t *testing.T) {
	for _, what := range kinds {
		s := example(what).s
		mustNotParse(t, strings.ToUpper(s))
		mustNotParse(t, strings.ToUpper(s[:1])+s[1:])
		rest := s[len(heads[what]):]
		for i := range heads[what] {
			head := heads[what]
			mustNotParse(t, head[:i]+head[i+1:]+rest)
			mustNotParse(t, head[:i]+"z"+head[i+1:]+rest)
			mustNotParse(t, head[:i]+"z"+head[i:]+rest)
			if up := strings.ToUpper(head[i : i+1]); up != head[i:i+1] {
				mustNotParse(t, head[:i]+up+head[i+1:]+rest)
			}
		}
	}
	for _, s := range []string{
		"prio 5", "mode on", "mac 02:13:35:57:79:9b", "age 5", "rstp 1", "stp on", "max-age 5", "fix 5 02:13:35:57:79:9b", "forget 5", "check 3", "edge 3 on",
		"cost 3 5", "link 3 two", "auto 3 on", "priority 3 5", "port 3 cost 5", "port max 3 5", "port ageing 3 5", "port hold 3 5", "port rstp 3 on", "port fix 3 5",
		"port forget 3", "port cost 5", "port port cost 3 5", "port port check 3", "port check on", "port priority 5",
		"priority N", "port priority P N", "rstp O", "port link P L", "fix M N", "forget M",
	} {
		mustNotParse(t, s)
	}
}

// No text has so many bytes; what only wants length is none, and what is far too long isn't either.
func TestParseByLength(t *testing.T) {
	for _, n := range []int{longest - 2, longest - 1, longest, longest + 1, longest + 2, 4000, 4001, 1 << 16, 1 << 20} {
		for _, what := range kinds {
			s := example(what).s
			mustNotParse(t, s+strings.Repeat(" ", n-len(s)))
			mustNotParse(t, strings.Repeat(" ", n-len(s))+s)
			mustNotParse(t, s+strings.Repeat("0", n-len(s)))
			mustNotParse(t, heads[what]+" "+strings.Repeat("0", n-len(s))+s[len(heads[what])+1:])
			mustNotParse(t, s+" "+strings.Repeat("0", n-len(s)-1))
		}
		mustNotParse(t, strings.Repeat(" ", n))
		mustNotParse(t, strings.Repeat("5", n))
		mustNotParse(t, strings.Repeat("port ", n/5))
	}
}

// oracle is what a text has to look like, but for how great its numbers are.
var oracle = regexp.MustCompile(`\A(?:(?:priority|max|hello|delay|hold|ageing) (\d+)` +
	`|rstp (?:on|off)|port (?:priority|cost) (\d+) (\d+)|port (?:edge|auto) (\d+) (?:on|off)|port link (\d+) (?:auto|two|many)` +
	`|fix (?:[0-9a-f]{2}:){5}[0-9a-f]{2} (\d+)|forget (?:[0-9a-f]{2}:){5}[0-9a-f]{2}|port check (\d+))\z`)

// isText tells a text by other means than the program's.
func isText(s string) bool {
	found := oracle.FindStringSubmatch(s)
	if found == nil || len(s) > longest {
		return false
	}
	for _, n := range found[1:] {
		value, e := strconv.ParseInt("0"+n, 10, 64)
		if e != nil || value > most || len(n) > 1 && n[0] == '0' {
			return false
		}
	}
	return true
}

// mustParseAsOracle holds Parse against what a text has to look like, and Text against Parse.
func mustParseAsOracle(t *testing.T, s string) {
	t.Helper()
	if !isText(s) {
		mustNotParse(t, s)
		return
	}
	c, e := command.Parse(s)
	if e != api.OK {
		t.Errorf("Parse(%q) returns %d", s, e)
	}
	mustPair(t, c, s)
}

// Each byte is put into each place of each example, and ahead of it, and each byte goes.
func TestParseOfEachByte(t *testing.T) {
	for _, what := range kinds {
		s := example(what).s
		for i := range s {
			mustParseAsOracle(t, s[:i]+s[i+1:])
			for b := range 256 {
				mustParseAsOracle(t, s[:i]+string([]byte{byte(b)})+s[i+1:])
				mustParseAsOracle(t, s[:i]+string([]byte{byte(b)})+s[i:])
			}
		}
		for b := range 256 {
			mustParseAsOracle(t, s+string([]byte{byte(b)}))
		}
	}
}

func FuzzParse(f *testing.F) {
	f.Add("")
	for _, what := range kinds {
		f.Add(example(what).s)
		f.Add(heads[what])
	}
	f.Fuzz(func(t *testing.T, s string) { mustParseAsOracle(t, s) })
}

// P12.1: Text, of what is no command

func TestTextOfNoKind(t *testing.T) {
	for _, what := range []command.What{-1, -2, -15, 15, 16, 29, 30, 255, 256, 257, 1 << 32, 1<<32 + 1, math.MinInt, math.MaxInt} {
		mustHaveNoText(t, command.Command{What: what})
		mustHaveNoText(t, command.Command{What: what, N: 5})
		mustHaveNoText(t, command.Command{What: what, Port: 1, N: 1, On: true, Mac: station})
	}
}

func TestTextOfNumbersOutOfRange(t *testing.T) {
	for _, what := range kinds {
		for _, n := range beyond {
			c := example(what).c
			c.N = n
			mustHaveNoText(t, c)
			c = example(what).c
			c.Port = n
			mustHaveNoText(t, c)
		}
	}
}

func TestTextOfLinks(t *testing.T) {
	for _, n := range append(slices.Clone(beyond), numbers...) {
		c := command.Command{What: command.PortLink, Port: 3, N: n}
		switch n {
		case 0:
			mustPair(t, c, "port link 3 auto")
		case 1:
			mustPair(t, c, "port link 3 two")
		case 2:
			mustPair(t, c, "port link 3 many")
		default:
			mustHaveNoText(t, c)
		}
	}
}

// A field that isn't zero though it doesn't count is that of no command; one that counts may be zero or not.
func TestTextOfFieldsThatDontCount(t *testing.T) {
	sets := []struct {
		sorts string
		set   func(c *command.Command)
	}{
		{"P", func(c *command.Command) { c.Port = 1 }},
		{"NL", func(c *command.Command) { c.N = 1 }},
		{"O", func(c *command.Command) { c.On = true }},
		{"M", func(c *command.Command) { c.Mac = api.Mac{5: 1} }},
	}
	for _, what := range kinds {
		for bits := range 1 << len(sets) {
			for _, c := range []command.Command{{What: what}, example(what).c} {
				count := true
				for i, x := range sets {
					if bits>>i&1 != 0 {
						x.set(&c)
						count = count && strings.ContainsAny(fields[what], x.sorts)
					}
				}
				if !count {
					mustHaveNoText(t, c)
					continue
				}
				mustPair(t, c, texted(t, c))
			}
		}
	}
}

func TestTextOfOtherMacs(t *testing.T) {
	for _, what := range kinds {
		for i := range 6 {
			c := example(what).c
			c.Mac[i] ^= 128
			if strings.Contains(fields[what], "M") {
				mustPair(t, c, strings.Replace(example(what).s, addr.Text(station), addr.Text(c.Mac), 1))
			} else {
				mustHaveNoText(t, c)
			}
		}
	}
}

// P12.2

// copied returns a configuration that shares nothing with c.
func copied(c config.Config) config.Config {
	c.Ports = append([]config.Port{}, c.Ports...)
	return c
}

// mustBe compares two configurations; ports that are nil and ports that are empty count as equal.
func mustBe(t *testing.T, got, want config.Config) {
	t.Helper()
	if !reflect.DeepEqual(copied(got), copied(want)) {
		t.Errorf("it is %+v, not %+v", got, want)
	}
}

// parsed returns the commands of texts.
func parsed(t *testing.T, texts ...string) []command.Command {
	t.Helper()
	l := make([]command.Command, len(texts))
	for i, s := range texts {
		c, e := command.Parse(s)
		if e != api.OK {
			t.Fatalf("Parse(%q) returns %d", s, e)
		}
		l[i] = c
	}
	return l
}

// changed asks twice for what commands make of a configuration, and holds that nothing else changes by that.
func changed(t *testing.T, c config.Config, l []command.Command) (config.Config, api.Errno) {
	t.Helper()
	before, commands := copied(c), slices.Clone(l)
	x, e := command.Change(c, l...)
	again, f := command.Change(c, l...)
	mustBe(t, again, x)
	if e != f {
		t.Errorf("Change by %+v returns %d, then %d", l, e, f)
	}
	mustBe(t, c, before)
	if !slices.Equal(l, commands) {
		t.Errorf("the commands are %+v, not %+v", l, commands)
	}
	return x, e
}

// mustChange is for the commands of texts that make one configuration another one.
func mustChange(t *testing.T, c, want config.Config, texts ...string) {
	t.Helper()
	x, e := changed(t, c, parsed(t, texts...))
	if e != api.OK {
		t.Errorf("Change by %q returns %d", texts, e)
	}
	mustBe(t, x, want)
}

// mustNotChange is for the commands of texts that a configuration can't be changed by.
func mustNotChange(t *testing.T, c config.Config, want api.Errno, texts ...string) {
	t.Helper()
	x, e := changed(t, c, parsed(t, texts...))
	if e != want {
		t.Errorf("Change by %q returns %d, not %d", texts, e, want)
	}
	mustBe(t, x, config.Config{})
}

// other returns a valid configuration in which nothing is as usual, and no two ports are alike.
func other(ports int) config.Config {
	c := config.Usual(station, ports)
	c.Priority, c.Times, c.Hold, c.Rstp, c.Ageing = 8192, api.Times{Max: 8, Hello: 1, Delay: 7}, 3, false, 77
	for i := range c.Ports {
		c.Ports[i] = config.Port{Priority: 16 * i, Cost: uint32(1000 + i), Edge: i%2 == 0, AutoEdge: i%3 == 0, Point: config.Point(i % 3)}
	}
	return c
}

func TestChangeByNothing(t *testing.T) {
	for n := range 9 {
		for _, c := range []config.Config{config.Usual(station, n), other(n)} {
			mustChange(t, c, c)
		}
	}
	c := config.Usual(station, 0)
	c.Ports = nil
	mustChange(t, c, c)
	mustNotChange(t, config.Config{}, api.ErrRange)
}

func TestChangeOfTheBridge(t *testing.T) {
	for n := range 9 {
		for _, c := range []config.Config{config.Usual(station, n), other(n)} {
			for _, x := range []struct {
				s   string
				set func(c *config.Config)
			}{
				{"priority 0", func(c *config.Config) { c.Priority = 0 }},
				{"priority 4096", func(c *config.Config) { c.Priority = 4096 }},
				{"priority 61440", func(c *config.Config) { c.Priority = 61440 }},
				{"max 6", func(c *config.Config) { c.Times.Max = 6 }},
				{"max 12", func(c *config.Config) { c.Times.Max = 12 }},
				{"hello 1", func(c *config.Config) { c.Times.Hello = 1 }},
				{"hello 2", func(c *config.Config) { c.Times.Hello = 2 }},
				{"delay 16", func(c *config.Config) { c.Times.Delay = 16 }},
				{"delay 30", func(c *config.Config) { c.Times.Delay = 30 }},
				{"hold 1", func(c *config.Config) { c.Hold = 1 }},
				{"hold 10", func(c *config.Config) { c.Hold = 10 }},
				{"rstp on", func(c *config.Config) { c.Rstp = true }},
				{"rstp off", func(c *config.Config) { c.Rstp = false }},
				{"ageing 10", func(c *config.Config) { c.Ageing = 10 }},
				{"ageing 1000000", func(c *config.Config) { c.Ageing = 1000000 }},
			} {
				want := copied(c)
				x.set(&want)
				mustChange(t, c, want, x.s)
			}
		}
	}
}

func TestChangeOfEachPort(t *testing.T) {
	for n := range 9 {
		for _, c := range []config.Config{config.Usual(station, n), other(n)} {
			for i := range n {
				p := " " + strconv.Itoa(i+1) + " "
				for _, x := range []struct {
					s   string
					set func(p *config.Port)
				}{
					{"port priority" + p + "0", func(p *config.Port) { p.Priority = 0 }},
					{"port priority" + p + "240", func(p *config.Port) { p.Priority = 240 }},
					{"port cost" + p + "0", func(p *config.Port) { p.Cost = 0 }},
					{"port cost" + p + "1", func(p *config.Port) { p.Cost = 1 }},
					{"port cost" + p + "200000000", func(p *config.Port) { p.Cost = 200000000 }},
					{"port edge" + p + "on", func(p *config.Port) { p.Edge = true }},
					{"port edge" + p + "off", func(p *config.Port) { p.Edge = false }},
					{"port auto" + p + "on", func(p *config.Port) { p.AutoEdge = true }},
					{"port auto" + p + "off", func(p *config.Port) { p.AutoEdge = false }},
					{"port link" + p + "auto", func(p *config.Port) { p.Point = config.Auto }},
					{"port link" + p + "two", func(p *config.Port) { p.Point = config.Yes }},
					{"port link" + p + "many", func(p *config.Port) { p.Point = config.No }},
				} {
					want := copied(c)
					x.set(&want.Ports[i])
					mustChange(t, c, want, x.s)
				}
			}
		}
	}
}

func TestChangeByWhatSetsNothing(t *testing.T) {
	for n := range 9 {
		c := other(n)
		for _, s := range []string{
			"fix 02:00:00:00:00:09 1", "fix 02:00:00:00:00:09 0", "fix 00:00:00:00:00:00 0", "forget 02:00:00:00:00:09", "forget 00:00:00:00:00:00",
			"port check 0", "port check 1", "port check 2", "port check 8", "port check 9", "port check 1073741824",
		} {
			mustNotChange(t, c, api.ErrArg, s)
			mustNotChange(t, c, api.ErrArg, "hold 4", s)
			mustNotChange(t, c, api.ErrArg, s, "hold 4")
			mustNotChange(t, c, api.ErrArg, "hold 0", s)
		}
	}
}

func TestChangeOfPortsThatDontExist(t *testing.T) {
	for n := range 9 {
		for _, port := range []int{0, n + 1, n + 2, 9, 10, 255, 256, 257, 65537, most - 1, most} {
			for _, s := range []string{"port priority P 16", "port priority P 5", "port cost P 7", "port cost P 200000001", "port edge P on", "port auto P off", "port link P two"} {
				s = strings.Replace(s, "P", strconv.Itoa(port), 1)
				mustNotChange(t, other(n), api.ErrNone, s)
				mustNotChange(t, other(n), api.ErrNone, "hold 4", s)
				mustNotChange(t, other(n), api.ErrNone, s, "hold 4")
				mustNotChange(t, other(n), api.ErrNone, "hold 0", s)
			}
		}
	}
}

func TestChangeCommandByCommand(t *testing.T) {
	c := config.Usual(station, 3)
	want := copied(c)
	want.Priority, want.Hold, want.Rstp, want.Ageing = 4096, 2, false, 20
	want.Ports[0].Cost, want.Ports[1].Edge, want.Ports[2].Point = 5, true, config.No
	mustChange(t, c, want, "priority 4096", "port cost 1 5", "hold 2", "rstp off", "port edge 2 on", "ageing 20", "port link 3 many")

	want = copied(c)
	want.Hold = 4
	mustChange(t, c, want, "hold 2", "hold 3", "hold 4")
	want.Hold = 2
	mustChange(t, c, want, "hold 4", "hold 3", "hold 2")
	mustChange(t, c, c, "rstp off", "rstp on", "port auto 1 off", "port auto 1 on", "port cost 2 5", "port cost 2 0", "port link 3 many", "port link 3 auto")
	want = copied(c)
	want.Ports[1].Cost = 6
	mustChange(t, c, want, "port cost 2 5", "port cost 2 6")
}

// What is invalid on the way doesn't matter.
func TestChangeByWhatIsInvalidOnTheWay(t *testing.T) {
	c := config.Usual(station, 2)
	want := copied(c)
	want.Times = api.Times{Max: 40, Hello: 2, Delay: 30}
	mustChange(t, c, want, "max 40", "delay 30")
	mustChange(t, c, want, "delay 30", "max 40")
	mustChange(t, c, c, "hold 0", "hold 6")
	mustChange(t, c, c, "priority 1", "priority 1073741824", "priority 32768")
	mustChange(t, c, c, "port cost 1 1073741824", "port priority 1 7", "port cost 1 0", "port priority 1 128")

	invalid := copied(c)
	invalid.Hold, invalid.Ports[1].Point = 0, 3
	mustChange(t, invalid, c, "port link 2 auto", "hold 6")
	mustNotChange(t, invalid, api.ErrRange, "hold 6")
}

func TestChangeReturnsTheErrorOfTheResult(t *testing.T) {
	c := config.Usual(station, 2)
	for _, s := range []string{
		"priority 1", "priority 4095", "priority 65536", "priority 1073741824", "max 5", "max 41", "max 0", "hello 0", "hello 3", "delay 3", "delay 31",
		"hold 0", "hold 11", "ageing 9", "ageing 1000001", "ageing 0", "ageing 1073741824",
		"port priority 1 8", "port priority 2 256", "port cost 1 200000001", "port cost 2 1073741824",
	} {
		mustNotChange(t, c, api.ErrRange, s)
		mustNotChange(t, c, api.ErrRange, "rstp off", s, "port edge 1 on")
	}
	for _, s := range []string{"max 40", "max 29", "delay 10", "delay 4"} {
		mustNotChange(t, c, api.ErrTimes, s)
		mustNotChange(t, c, api.ErrTimes, s, "hold 0")
		mustNotChange(t, c, api.ErrTimes, "port cost 1 200000001", s)
		mustNotChange(t, c, api.ErrRange, s, "priority 1")
	}
	// What no command sets decides too.
	group := config.Usual(addr.Group(), 2)
	mustNotChange(t, group, api.ErrRange, "hold 4")
	mustNotChange(t, group, api.ErrTimes, "max 40")
	aged := config.Usual(station, 2)
	aged.Times.Age = 1
	mustNotChange(t, aged, api.ErrRange, "hold 4")
	many := config.Usual(station, 8)
	many.Ports = append(many.Ports, many.Ports[0])
	mustNotChange(t, many, api.ErrRange, "port cost 9 5")
	mustNotChange(t, many, api.ErrNone, "port cost 10 5")
}

// Of all errors of commands the first command's counts; the error of the result comes last.
func TestChangeReturnsTheFirstError(t *testing.T) {
	c := config.Usual(station, 2)
	mustNotChange(t, c, api.ErrArg, "port check 1", "port cost 3 5")
	mustNotChange(t, c, api.ErrNone, "port cost 3 5", "port check 1")
	mustNotChange(t, c, api.ErrNone, "max 40", "hold 0", "port edge 0 on", "forget 02:00:00:00:00:09")
	mustNotChange(t, c, api.ErrArg, "max 40", "hold 0", "forget 02:00:00:00:00:09", "port edge 0 on")
	mustNotChange(t, c, api.ErrArg, "port check 0")
	mustNotChange(t, c, api.ErrArg, "port check 3")
	mustNotChange(t, config.Config{}, api.ErrArg, "port check 1")
	mustNotChange(t, config.Config{}, api.ErrNone, "port cost 1 5")
	mustNotChange(t, config.Config{}, api.ErrRange, "hold 4")
}

func TestChangeSharesNothing(t *testing.T) {
	for n := 1; n <= 8; n++ {
		for _, texts := range [][]string{nil, {"hold 4"}, {"port cost 1 5"}} {
			c := other(n)
			x, e := command.Change(c, parsed(t, texts...)...)
			if e != api.OK {
				t.Fatal(e)
			}
			kept := copied(x)
			for i := range c.Ports {
				c.Ports[i] = config.Port{Priority: 99}
			}
			mustBe(t, x, kept)
			c = other(n)
			x, _ = command.Change(c, parsed(t, texts...)...)
			for i := range x.Ports {
				x.Ports[i] = config.Port{Priority: 99}
			}
			mustBe(t, c, other(n))
		}
	}
}

// What lies behind the ports, and behind the commands, doesn't count.
func TestChangeWithinTheLength(t *testing.T) {
	all := other(8)
	c := all
	c.Ports = all.Ports[:3]
	mustNotChange(t, c, api.ErrNone, "port cost 4 5")
	x, e := command.Change(c, parsed(t, "port cost 3 5", "hold 0")[:1]...)
	if e != api.OK || len(x.Ports) != 3 || x.Ports[2].Cost != 5 {
		t.Errorf("Change returns %+v, %d", x, e)
	}
	x.Ports = append(x.Ports, config.Port{Cost: 9})
	mustBe(t, all, other(8))
}

// Nothing is promised of what is no command, but that the call ends.
func TestChangeByWhatIsNoCommandEnds(t *testing.T) {
	for _, what := range append([]command.What{-1, 15, math.MinInt, math.MaxInt}, kinds...) {
		for _, n := range beyond {
			for _, port := range append([]int{1}, beyond...) {
				for _, ports := range []int{0, 1, 8} {
					c := other(ports)
					command.Change(c, command.Command{What: what, Port: port, N: n, On: true, Mac: station})
					mustBe(t, c, other(ports))
				}
			}
		}
	}
}

// P12.3

// mustPrint asks twice, and holds that the configuration isn't changed by that.
func mustPrint(t *testing.T, c config.Config, texts ...string) {
	t.Helper()
	before := copied(c)
	for range 2 {
		l := command.Print(c)
		got := make([]string, len(l))
		for i, x := range l {
			got[i] = texted(t, x)
		}
		if !slices.Equal(got, texts) {
			t.Errorf("Print of %+v returns %q, not %q", c, got, texts)
		}
		for i := range l {
			l[i] = command.Command{What: command.Check, Port: 77}
		}
	}
	mustBe(t, c, before)
}

func TestPrintOfTheUsual(t *testing.T) {
	texts := []string{"priority 32768", "max 20", "hello 2", "delay 15", "hold 6", "rstp on", "ageing 300"}
	for n := range 9 {
		if n > 0 {
			p := " " + strconv.Itoa(n) + " "
			texts = append(texts, "port priority"+p+"128", "port cost"+p+"0", "port edge"+p+"off", "port auto"+p+"on", "port link"+p+"auto")
		}
		mustPrint(t, config.Usual(station, n), texts...)
	}
	c := config.Usual(station, 0)
	c.Ports = nil
	mustPrint(t, c, texts[:7]...)
}

func TestPrintOfAnother(t *testing.T) {
	c := config.Config{Mac: station, Priority: 4096, Times: api.Times{Max: 18, Hello: 1, Delay: 10}, Hold: 9, Rstp: false, Ageing: 11}
	mustPrint(t, c, "priority 4096", "max 18", "hello 1", "delay 10", "hold 9", "rstp off", "ageing 11")
	c.Ports = []config.Port{
		{Priority: 16, Cost: 200000000, Edge: true, AutoEdge: false, Point: config.Yes},
		{Priority: 240, Cost: 1, Edge: false, AutoEdge: true, Point: config.No},
		{},
	}
	mustPrint(t, c, "priority 4096", "max 18", "hello 1", "delay 10", "hold 9", "rstp off", "ageing 11",
		"port priority 1 16", "port cost 1 200000000", "port edge 1 on", "port auto 1 off", "port link 1 two",
		"port priority 2 240", "port cost 2 1", "port edge 2 off", "port auto 2 on", "port link 2 many",
		"port priority 3 0", "port cost 3 0", "port edge 3 off", "port auto 3 off", "port link 3 auto")
	all := other(8)
	some := all
	some.Ports = all.Ports[:2]
	if l := command.Print(some); len(l) != 17 {
		t.Errorf("Print of two ports returns %d commands", len(l))
	}
}

// mustReturn changes the usual configuration by what is printed, as commands and by their texts.
func mustReturn(t *testing.T, c config.Config) {
	t.Helper()
	if e := c.Check(); e != api.OK {
		t.Fatalf("%+v isn't valid: %d", c, e)
	}
	l := command.Print(c)
	if len(l) != 7+5*len(c.Ports) {
		t.Errorf("Print of %d ports returns %d commands", len(c.Ports), len(l))
	}
	texts := make([]string, len(l))
	for i, x := range l {
		texts[i] = texted(t, x)
		want := command.What(i)
		if i >= 7 {
			want = command.PortPriority + command.What((i-7)%5)
		}
		if x.What != want {
			t.Errorf("command %d is of kind %d, not %d", i, x.What, want)
		}
	}
	mustChange(t, config.Usual(c.Mac, len(c.Ports)), c, texts...)
	mustChange(t, other(len(c.Ports)), withMac(c, other(0).Mac), texts...)
	x, e := command.Change(config.Usual(c.Mac, len(c.Ports)), l...)
	if e != api.OK {
		t.Errorf("Change by %+v returns %d", l, e)
	}
	mustBe(t, x, c)
}

// withMac returns a configuration with another address, which no command sets.
func withMac(c config.Config, m api.Mac) config.Config {
	c.Mac = m
	return c
}

func TestPrintAndBack(t *testing.T) {
	for n := range 9 {
		for _, m := range []api.Mac{{}, station, {254, 255, 255, 255, 255, 255}} {
			mustReturn(t, config.Usual(m, n))
			mustReturn(t, withMac(other(n), m))
		}
	}
	c := config.Usual(station, 0)
	c.Ports = nil
	mustReturn(t, c)
}

func TestPrintAndBackOfEachFieldOfTheBridge(t *testing.T) {
	for priority := 0; priority <= 61440; priority += 4096 {
		c := other(1)
		c.Priority = priority
		mustReturn(t, c)
	}
	for hold := 1; hold <= 10; hold++ {
		c := other(1)
		c.Hold, c.Rstp = hold, hold%2 == 0
		mustReturn(t, c)
	}
	for _, ageing := range []int{10, 11, 299, 300, 301, 65536, 999999, 1000000} {
		c := other(1)
		c.Ageing = ageing
		mustReturn(t, c)
	}
	for most := 6; most <= 40; most++ {
		for hello := 1; hello <= 2; hello++ {
			for delay := 4; delay <= 30; delay++ {
				c := other(1)
				c.Times = api.Times{Max: most, Hello: hello, Delay: delay}
				if times.Check(c.Times) == api.OK {
					mustReturn(t, c)
				}
			}
		}
	}
}

func TestPrintAndBackOfEachFieldOfAPort(t *testing.T) {
	costs := []uint32{0, 1, 2, 7, 20000, 199999999, 200000000}
	i := 0
	for priority := 0; priority <= 240; priority += 16 {
		for _, cost := range costs {
			for bits := range 4 {
				for point := config.Auto; point <= config.No; point++ {
					c := other(8)
					i++
					c.Ports[i%8] = config.Port{Priority: priority, Cost: cost, Edge: bits&1 != 0, AutoEdge: bits&2 != 0, Point: point}
					mustReturn(t, c)
				}
			}
		}
	}
}

// Nothing is promised of configurations that aren't valid, but that the call ends.
func TestPrintOfInvalidEnds(t *testing.T) {
	for _, n := range beyond {
		c := config.Config{Mac: addr.All(), Priority: n, Times: api.Times{Age: n, Max: n, Hello: n, Delay: n}, Hold: n, Ageing: n, Ports: make([]config.Port, 20)}
		for i := range c.Ports {
			c.Ports[i] = config.Port{Priority: n, Cost: math.MaxUint32, Point: config.Point(n)}
		}
		before := copied(c)
		command.Print(c)
		mustBe(t, c, before)
	}
	command.Print(config.Config{})
}
