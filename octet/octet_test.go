package octet_test

import (
	"bytes"
	"encoding/binary"
	"errors"
	"math"
	"math/big"
	"runtime"
	"slices"
	"testing"

	"catenary/api"
	"catenary/octet"
)

// numbers are of every length in bytes, with the edges between the lengths.
func numbers() []uint64 {
	l := []uint64{0, 1, 0x7f, 0x80, 0xff, 0x0102030405060708, 0xf1e2d3c4b5a69788, math.MaxInt64, math.MaxUint64}
	for bits := 8; bits < 64; bits += 8 {
		n := uint64(1) << bits
		l = append(l, n-1, n, n+1, n<<7)
	}
	return l
}

// numberOf is what bytes are as a number, by other means than the program's.
func numberOf(b []byte) uint64 { return new(big.Int).SetBytes(b).Uint64() }

// lowest are a number's lowest bytes, by other means than the program's.
func lowest(count int, n uint64) []byte {
	return binary.BigEndian.AppendUint64(nil, n)[8-count:]
}

// reading is a Read that must return want.
func reading(t *testing.T, b []byte, want api.Errno, f func(r *octet.Reader)) {
	t.Helper()
	if e := octet.Read(b, f); e != want {
		t.Errorf("Read of %v returns %v, not %v", b, e, want)
	}
}

func mustLeave(t *testing.T, r *octet.Reader, want int) {
	t.Helper()
	if n := r.Left(); n != want {
		t.Errorf("Left returns %d, not %d", n, want)
	}
}

func mustBytes(t *testing.T, r *octet.Reader, n int, want ...byte) {
	t.Helper()
	if b := r.Bytes(n); !bytes.Equal(b, want) {
		t.Errorf("Bytes(%d) returns %v, not %v", n, b, want)
	}
}

func mustNumber(t *testing.T, r *octet.Reader, count int, want uint64) {
	t.Helper()
	if n := r.Number(count); n != want {
		t.Errorf("Number(%d) returns %#x, not %#x", count, n, want)
	}
}

// panicOf is what a function panics with, or nil.
func panicOf(f func()) (p any) {
	defer func() { p = recover() }()
	f()
	return nil
}

// P3.1: Read

func TestReadCallsTheFunctionOnce(t *testing.T) {
	for _, b := range [][]byte{nil, {}, {7}, {1, 2, 3}} {
		calls := 0
		reading(t, b, api.OK, func(r *octet.Reader) {
			calls++
			mustLeave(t, r, len(b))
		})
		if calls != 1 {
			t.Errorf("Read of %v calls its function %d times", b, calls)
		}
	}
}

func TestReadOfTheExample(t *testing.T) {
	reading(t, []byte{1, 2, 3}, api.ErrCut, func(r *octet.Reader) {
		mustNumber(t, r, 2, 258)
		mustLeave(t, r, 1)
		r.Number(2)
		t.Error("a reading goes on behind its stop")
	})
}

func TestReadOfFieldsOfAllSorts(t *testing.T) {
	b := []byte{9, 1, 2, 3, 4, 0xff, 0xfe, 0, 0, 5}
	reading(t, b, api.OK, func(r *octet.Reader) {
		r.Is(1, 9, api.ErrForm)
		mustLeave(t, r, 9)
		mustBytes(t, r, 2, 1, 2)
		mustLeave(t, r, 7)
		mustNumber(t, r, 2, 0x0304)
		mustLeave(t, r, 5)
		mustBytes(t, r, 0)
		mustLeave(t, r, 5)
		mustNumber(t, r, 3, 0xfffe00)
		r.Is(2, 5, api.ErrForm)
		mustLeave(t, r, 0)
	})
}

func TestReadOfWhatBytesWere(t *testing.T) {
	b := []byte{1, 2, 3, 4, 5}
	reading(t, b, api.OK, func(r *octet.Reader) {
		b[0] = 100
		mustNumber(t, r, 1, 1)
		clear(b)
		mustBytes(t, r, 2, 2, 3)
		b[3], b[4] = 200, 201
		r.Is(2, 0x0405, api.ErrForm)
	})
}

func TestReadLeavesItsBytes(t *testing.T) {
	whole := []byte{1, 2, 3, 4, 5, 6}
	was := slices.Clone(whole)
	reading(t, whole[1:4], api.ErrCut, func(r *octet.Reader) {
		got := r.Bytes(2)
		got[0], got[1] = 50, 51
		got = append(got, 52, 53)
		clear(got)
		mustLeave(t, r, 1)
		mustBytes(t, r, 1, 4)
		r.Bytes(1) // the element beyond the length is there, but isn't b's
		t.Error("a reading goes on beyond the length of its bytes")
	})
	if !bytes.Equal(whole, was) {
		t.Errorf("Read makes %v of %v", whole, was)
	}
}

func TestReadsOfTheSameBytesAreApart(t *testing.T) {
	b := []byte{1, 2, 3}
	reading(t, b, api.OK, func(outer *octet.Reader) {
		mustNumber(t, outer, 1, 1)
		reading(t, b, api.OK, func(inner *octet.Reader) {
			mustNumber(t, inner, 2, 0x0102)
			mustLeave(t, outer, 2)
			mustNumber(t, outer, 1, 2)
			mustLeave(t, inner, 1)
		})
		mustNumber(t, outer, 1, 3)
	})
}

func TestReadOfNoFunction(t *testing.T) {
	reading(t, []byte{1}, api.OK, nil)
	reading(t, nil, api.OK, nil)
}

// P3.1: Stop

func TestStop(t *testing.T) {
	for e := api.OK; e <= api.ErrBad+1; e++ {
		before, deferred := false, false
		reading(t, []byte{1, 2}, e, func(r *octet.Reader) {
			defer func() { deferred = true }()
			before = true
			r.Stop(e)
			t.Errorf("the function goes on behind Stop(%v)", e)
		})
		if !before || !deferred {
			t.Errorf("Stop(%v): %v %v", e, before, deferred)
		}
	}
	reading(t, nil, -1, func(r *octet.Reader) { r.Stop(-1) })
}

func TestStopDeepWithin(t *testing.T) {
	var down func(r *octet.Reader)
	down = func(r *octet.Reader) {
		if r.Left() == 0 {
			r.Stop(api.ErrTimes)
		}
		r.Bytes(1)
		down(r)
		t.Error("a function goes on behind a stop within it")
	}
	reading(t, make([]byte, 20), api.ErrTimes, down)
}

func TestStopOfAnEarlierReadingIsGone(t *testing.T) {
	b := []byte{1}
	reading(t, b, api.ErrFull, func(r *octet.Reader) { r.Stop(api.ErrFull) })
	reading(t, b, api.OK, func(r *octet.Reader) { mustNumber(t, r, 1, 1) })
}

func TestStopOfAnInnerReading(t *testing.T) {
	went := false
	reading(t, []byte{1, 2}, api.OK, func(outer *octet.Reader) {
		reading(t, []byte{3}, api.ErrCut, func(inner *octet.Reader) { inner.Bytes(2) })
		mustNumber(t, outer, 2, 0x0102)
		went = true
	})
	if !went {
		t.Error("the outer reading ends with the inner one")
	}
}

func TestStopOfAnOuterReadingWithinAnInnerOne(t *testing.T) {
	reading(t, []byte{1}, api.ErrRange, func(outer *octet.Reader) {
		octet.Read([]byte{2, 3}, func(inner *octet.Reader) {
			inner.Bytes(1)
			outer.Stop(api.ErrRange)
			t.Error("the inner function goes on behind the stop of the outer reading")
		})
		t.Error("the outer function goes on behind its stop")
	})
	reading(t, []byte{1}, api.ErrCut, func(outer *octet.Reader) {
		octet.Read([]byte{2, 3}, func(*octet.Reader) { outer.Bytes(2) })
		t.Error("the outer function goes on behind its stop")
	})
}

func TestStopOfACopy(t *testing.T) {
	reading(t, []byte{1, 2}, api.ErrCut, func(r *octet.Reader) {
		ahead := *r
		mustNumber(t, &ahead, 2, 0x0102)
		mustLeave(t, r, 2)
		mustNumber(t, r, 1, 1)
		ahead.Bytes(1)
		t.Error("the function goes on behind its stop")
	})
}

func TestStopFromADeferredCall(t *testing.T) {
	reading(t, []byte{1}, api.ErrDown, func(r *octet.Reader) {
		defer r.Stop(api.ErrDown)
		r.Stop(api.ErrForm)
	})
}

// P3.1: Bytes

func TestBytesOfEveryLength(t *testing.T) {
	b := []byte{10, 11, 12, 13, 14, 15, 16, 17, 18, 19}
	for start := 0; start <= len(b); start++ {
		for n := 0; start+n <= len(b); n++ {
			reading(t, b, api.OK, func(r *octet.Reader) {
				mustBytes(t, r, start, b[:start]...)
				mustBytes(t, r, n, b[start:start+n]...)
				mustLeave(t, r, len(b)-start-n)
			})
		}
	}
}

func TestBytesOfTooFew(t *testing.T) {
	for have := range 10 {
		for _, n := range []int{have + 1, have + 2, 8 + have, 1000, math.MaxInt32, math.MaxInt} {
			reading(t, make([]byte, have), api.ErrCut, func(r *octet.Reader) {
				r.Bytes(n)
				t.Errorf("Bytes(%d) of %d goes on", n, have)
			})
		}
	}
}

func TestBytesBelowNone(t *testing.T) {
	for have := range 10 {
		for _, n := range []int{-1, -2, -8, -have - 1, math.MinInt32, math.MinInt} {
			reading(t, make([]byte, have), api.ErrCut, func(r *octet.Reader) {
				r.Bytes(n)
				t.Errorf("Bytes(%d) of %d goes on", n, have)
			})
			reading(t, make([]byte, have+1), api.ErrCut, func(r *octet.Reader) {
				mustBytes(t, r, 1, 0)
				r.Bytes(n)
				t.Errorf("Bytes(%d) of %d goes on behind the first one", n, have)
			})
		}
	}
}

func TestBytesAreNotShared(t *testing.T) {
	reading(t, []byte{1, 2, 3, 4}, api.OK, func(r *octet.Reader) {
		again := *r
		first := r.Bytes(2)
		_ = append(first, 90, 91) // must not come to where the next ones are
		second := r.Bytes(2)
		if !bytes.Equal(second, []byte{3, 4}) {
			t.Errorf("what is appended to one field changes the next to %v", second)
		}
		clear(first)
		clear(second)
		mustBytes(t, &again, 4, 1, 2, 3, 4)
	})
}

// P3.1: Number

func TestNumberOfEveryLength(t *testing.T) {
	for _, b := range [][]byte{{1, 2, 3, 4, 5, 6, 7, 8}, {0xff, 0xfe, 0xfd, 0xfc, 0xfb, 0xfa, 0xf9, 0xf8}, {0, 0, 0, 0, 0, 0, 0, 0x80}, {0x80, 0, 0, 0, 0, 0, 0, 0}} {
		for n := 0; n <= 8; n++ {
			for start := 0; start+n <= 8; start++ {
				reading(t, b, api.OK, func(r *octet.Reader) {
					r.Bytes(start)
					mustNumber(t, r, n, numberOf(b[start:start+n]))
					mustLeave(t, r, 8-start-n)
				})
			}
		}
	}
}

func TestNumberOfNoBytes(t *testing.T) {
	reading(t, nil, api.OK, func(r *octet.Reader) {
		mustNumber(t, r, 0, 0)
		mustBytes(t, r, 0)
		mustLeave(t, r, 0)
	})
	reading(t, []byte{0xff}, api.OK, func(r *octet.Reader) {
		mustNumber(t, r, 0, 0)
		mustLeave(t, r, 1)
		mustNumber(t, r, 1, 0xff)
		mustNumber(t, r, 0, 0)
	})
}

func TestNumberOfTooFew(t *testing.T) {
	for have := range 8 {
		for n := have + 1; n <= 8; n++ {
			reading(t, make([]byte, have), api.ErrCut, func(r *octet.Reader) {
				r.Number(n)
				t.Errorf("Number(%d) of %d bytes goes on", n, have)
			})
			reading(t, make([]byte, have+3), api.ErrCut, func(r *octet.Reader) {
				r.Number(3)
				r.Number(n)
				t.Errorf("Number(%d) of %d bytes goes on behind three others", n, have)
			})
		}
	}
}

func TestNumberBelowNone(t *testing.T) {
	for _, n := range []int{-1, -8, math.MinInt} {
		reading(t, []byte{1, 2, 3}, api.ErrCut, func(r *octet.Reader) {
			r.Number(n)
			t.Errorf("Number(%d) goes on", n)
		})
	}
}

// P3.1: Is

func TestIs(t *testing.T) {
	for _, n := range numbers() {
		for count := 0; count <= 8; count++ {
			b := lowest(count, n)
			went := false
			reading(t, append(b, 77), api.OK, func(r *octet.Reader) {
				r.Is(count, numberOf(b), api.ErrForm)
				mustLeave(t, r, 1)
				mustNumber(t, r, 1, 77)
				went = true
			})
			if !went {
				t.Errorf("Is(%d, %#x) stops", count, numberOf(b))
			}
		}
	}
}

func TestIsOfAnotherNumber(t *testing.T) {
	for _, n := range numbers() {
		for count := 0; count <= 8; count++ {
			b := lowest(count, n)
			for bit := range 64 {
				want := numberOf(b) ^ 1<<bit
				reading(t, b, api.ErrTimes, func(r *octet.Reader) {
					r.Is(count, want, api.ErrTimes)
					t.Errorf("Is(%d, %#x) of %v goes on", count, want, b)
				})
			}
		}
	}
}

func TestIsStopsWithItsOwnError(t *testing.T) {
	for e := api.OK; e <= api.ErrBad; e++ {
		reading(t, []byte{1, 2}, e, func(r *octet.Reader) {
			r.Is(2, 0x0201, e)
			t.Errorf("Is goes on instead of stopping with %v", e)
		})
	}
}

func TestIsOfTooFew(t *testing.T) {
	for _, n := range []int{-1, math.MinInt, 3, 4, 8} {
		for _, want := range []uint64{0, 1, 0x0100, 0x010000} {
			reading(t, []byte{1, 0}, api.ErrCut, func(r *octet.Reader) {
				r.Is(n, want, api.ErrForm)
				t.Errorf("Is(%d, %#x) of two bytes goes on", n, want)
			})
		}
	}
}

// P3.1: a panic of the function itself

type other struct{ n int }

func TestPanicOfTheFunctionPropagates(t *testing.T) {
	fault := errors.New("fault")
	pointer := &other{3}
	for _, p := range []any{"other", 7, api.OK, api.ErrCut, fault, pointer, other{4}, struct{}{}, struct{ e api.Errno }{api.ErrCut}} {
		got := panicOf(func() {
			octet.Read([]byte{1, 2}, func(r *octet.Reader) {
				r.Bytes(1)
				panic(p)
			})
			t.Errorf("Read recovers the panic %v", p)
		})
		if got != p {
			t.Errorf("the panic %v propagates as %v", p, got)
		}
	}
}

func TestPanicOfTheRuntimePropagates(t *testing.T) {
	var none []int
	got := panicOf(func() { octet.Read(nil, func(r *octet.Reader) { none[r.Left()]++ }) })
	if _, ok := got.(runtime.Error); !ok {
		t.Errorf("an index out of range propagates as %v", got)
	}
	got = panicOf(func() { octet.Read(nil, func(*octet.Reader) { panic(nil) }) })
	if _, ok := got.(*runtime.PanicNilError); !ok {
		t.Errorf("a panic with nil propagates as %v", got)
	}
}

func TestPanicOfAnInnerFunctionPropagates(t *testing.T) {
	got := panicOf(func() {
		octet.Read([]byte{1}, func(outer *octet.Reader) {
			octet.Read([]byte{2}, func(*octet.Reader) { panic("other") })
			t.Error("the inner Read recovers another panic")
		})
		t.Error("the outer Read recovers another panic")
	})
	if got != "other" {
		t.Errorf("the panic propagates as %v", got)
	}
}

func TestPanicWhileStoppingPropagates(t *testing.T) {
	got := panicOf(func() {
		octet.Read([]byte{1}, func(r *octet.Reader) {
			defer func() { panic("later") }()
			r.Stop(api.ErrForm)
		})
	})
	if got != "later" {
		t.Errorf("the panic propagates as %v", got)
	}
}

func TestReaderThatIsNil(t *testing.T) {
	var r *octet.Reader
	if p := panicOf(func() {
		r.Stop(api.ErrForm)
		r.Is(1, 2, api.ErrForm)
		for _, n := range []int{-1, 0, 1, 8} {
			mustBytes(t, r, n)
			mustNumber(t, r, n, 0)
		}
		mustLeave(t, r, 0)
	}); p != nil {
		t.Errorf("a method of nil panics with %v", p)
	}
}

// P3.2

func TestPut(t *testing.T) {
	for _, b := range [][]byte{nil, {}, {9}, {1, 2, 3}, make([]byte, 100)} {
		for _, n := range numbers() {
			for count := 0; count <= 8; count++ {
				want := slices.Concat(b, lowest(count, n))
				if got := octet.Put(b, count, n); !bytes.Equal(got, want) {
					t.Errorf("Put(%v, %d, %#x) returns %v, not %v", b, count, n, got, want)
				}
			}
		}
	}
}

func TestPutOfEachLength(t *testing.T) {
	n := uint64(0x0102030405060708)
	for count, want := range []string{"", "\x08", "\x07\x08", "\x06\x07\x08", "\x05\x06\x07\x08", "\x04\x05\x06\x07\x08", "\x03\x04\x05\x06\x07\x08", "\x02\x03\x04\x05\x06\x07\x08", "\x01\x02\x03\x04\x05\x06\x07\x08"} {
		if got := octet.Put([]byte{0xaa}, count, n); string(got) != "\xaa"+want {
			t.Errorf("Put of %d bytes returns %x", count, got)
		}
	}
}

func TestPutLeavesItsBytes(t *testing.T) {
	whole := []byte{1, 2, 3, 4, 5, 6, 7, 8, 9, 10}
	was := slices.Clone(whole)
	for length := range len(whole) {
		for count := 0; count <= 8; count++ {
			b := whole[:length]
			got := octet.Put(b, count, math.MaxUint64)
			if !bytes.Equal(whole, was) {
				t.Fatalf("Put of %d bytes behind %d others makes %v", count, length, whole)
			}
			got = append(got, 99)
			clear(got)
			if !bytes.Equal(whole, was) {
				t.Fatalf("Put of %d bytes behind %d others returns what is shared", count, length)
			}
		}
	}
}

func TestPutsOfTheSameBytesAreApart(t *testing.T) {
	b := octet.Put(make([]byte, 0, 100), 2, 0x0102)
	first := octet.Put(b, 2, 0x0304)
	second := octet.Put(b, 2, 0x0506)
	if !bytes.Equal(first, []byte{1, 2, 3, 4}) || !bytes.Equal(second, []byte{1, 2, 5, 6}) {
		t.Errorf("two Puts return %v and %v", first, second)
	}
}

// P3.1 and P3.2 together

func TestReadOfWhatWasPut(t *testing.T) {
	for _, n := range numbers() {
		for count := 0; count <= 8; count++ {
			b := octet.Put(octet.Put(nil, count, n), 8-count, ^n)
			reading(t, b, api.OK, func(r *octet.Reader) {
				mustNumber(t, r, count, numberOf(lowest(count, n)))
				mustNumber(t, r, 8-count, numberOf(lowest(8-count, ^n)))
				mustLeave(t, r, 0)
			})
		}
	}
}

// FuzzRead reads fields of the lengths that steps tell, and holds them against the bytes.
func FuzzRead(f *testing.F) {
	f.Add([]byte{1, 2, 3}, []byte{2, 2})
	f.Add([]byte{1, 2, 3, 4, 5, 6, 7, 8}, []byte{8, 0})
	f.Add([]byte{}, []byte{0, 255})
	f.Fuzz(func(t *testing.T, b, steps []byte) {
		rest, want, done := slices.Clone(b), api.OK, 0
		e := octet.Read(b, func(r *octet.Reader) {
			for _, s := range steps {
				n := int(int8(s))%10 - 1
				mustLeave(t, r, len(rest))
				if n < 0 || n > len(rest) {
					want = api.ErrCut
				}
				if s%2 == 0 {
					got := r.Bytes(n)
					if want != api.OK || !bytes.Equal(got, rest[:n]) {
						t.Errorf("Bytes(%d) of %v returns %v", n, rest, got)
					}
				} else if got := r.Number(n); want != api.OK || got != numberOf(rest[:n]) {
					t.Errorf("Number(%d) of %v returns %#x", n, rest, got)
				}
				rest = rest[n:]
				done++
			}
		})
		if e != want || e == api.OK && done != len(steps) {
			t.Errorf("Read returns %v behind %d of %d steps, not %v", e, done, len(steps), want)
		}
	})
}

func FuzzPut(f *testing.F) {
	f.Add([]byte{9}, byte(3), uint64(0x01020304))
	f.Add([]byte{}, byte(8), uint64(math.MaxUint64))
	f.Fuzz(func(t *testing.T, b []byte, c byte, n uint64) {
		count := int(c % 9)
		was := slices.Clone(b)
		got := octet.Put(b, count, n)
		if !bytes.Equal(got, slices.Concat(was, lowest(count, n))) || !bytes.Equal(b, was) {
			t.Errorf("Put(%v, %d, %#x) returns %v", b, count, n, got)
		}
	})
}
