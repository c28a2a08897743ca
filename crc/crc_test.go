package crc_test

import (
	"bytes"
	"os"
	"sync"
	"testing"

	"carrier/crc"
)

const (
	letters    = "123456789"
	lettersSum = 0xe3069283
)

// What the first callers of all met, all of them at once: the table must be laid ahead of each one's sum.
var (
	callsAtFirst uint64
	firstSums    [16]uint32
)

func TestMain(m *testing.M) {
	callsAtFirst = crc.Calls()
	start := make(chan bool)
	var callers sync.WaitGroup
	for i := range firstSums {
		callers.Go(func() {
			<-start
			firstSums[i] = firstSum(i)
		})
	}
	close(start)
	callers.Wait()
	os.Exit(m.Run())
}

// firstSum is made by each of the two calls in turn.
func firstSum(i int) uint32 {
	if i%2 == 0 {
		return crc.More(0, []byte(letters))
	}
	return crc.Of([]byte(letters))
}

// bitByBit goes on with a sum just as the promise words it.
func bitByBit(c uint32, p []byte) uint32 {
	register := ^c
	for _, b := range p {
		for place := range 8 {
			taken := register&1 ^ uint32(b>>place)&1
			register >>= 1
			if taken == 1 {
				register ^= 0x82f63b78
			}
		}
	}
	return ^register
}

// mixed is n bytes of all kinds.
func mixed(n int) []byte {
	p := make([]byte, n)
	x := uint32(1)
	for i := range p {
		x = x*1664525 + 1013904223
		p[i] = byte(x >> 24)
	}
	return p
}

func upTo32(from, step int) []byte {
	var p []byte
	for range 32 {
		p = append(p, byte(from))
		from += step
	}
	return p
}

func TestNothingWasCalledAtFirst(t *testing.T) {
	if callsAtFirst != 0 {
		t.Error(callsAtFirst)
	}
}

func TestFirstCallersAtOnce(t *testing.T) {
	for i, c := range firstSums {
		if c != lettersSum {
			t.Errorf("caller %d: %x", i, c)
		}
	}
}

func TestKnownSums(t *testing.T) {
	for _, c := range []struct {
		p    []byte
		want uint32
	}{
		{nil, 0},
		{[]byte{}, 0},
		{[]byte("a"), 0xc1d04330},
		{[]byte(letters), lettersSum},
		{upTo32(0, 0), 0x8a9136aa},
		{upTo32(255, 0), 0x62a8ab43},
		{upTo32(0, 1), 0x46dd794e},
		{upTo32(31, -1), 0x113fdb5c},
	} {
		if got := crc.Of(c.p); got != c.want {
			t.Errorf("Of(%x) is %x, not %x", c.p, got, c.want)
		}
		if got := crc.More(0, c.p); got != c.want {
			t.Errorf("More(0, %x) is %x, not %x", c.p, got, c.want)
		}
		if got := crc.Sum(c.p); got != c.want {
			t.Errorf("Sum(%x) is %x, not %x", c.p, got, c.want)
		}
	}
}

func TestEachByte(t *testing.T) {
	for a := range 256 {
		if p := []byte{byte(a)}; crc.Of(p) != bitByBit(0, p) || crc.More(0, p) != bitByBit(0, p) {
			t.Fatalf("%x", p)
		}
		for b := range 256 {
			if p := []byte{byte(a), byte(b)}; crc.Of(p) != bitByBit(0, p) || crc.More(0, p) != bitByBit(0, p) {
				t.Fatalf("%x", p)
			}
		}
	}
}

func TestEachLength(t *testing.T) {
	all := mixed(600)
	for n := range all {
		if p := all[:n]; crc.Of(p) != bitByBit(0, p) || crc.More(0, p) != bitByBit(0, p) || crc.Sum(p) != bitByBit(0, p) {
			t.Fatal(n)
		}
	}
	if long := mixed(1 << 20); crc.Of(long) != bitByBit(0, long) || crc.More(0, long) != bitByBit(0, long) {
		t.Error("long")
	}
}

func TestMoreAtEachCut(t *testing.T) {
	all := mixed(200)
	want := crc.Of(all)
	for cut := range len(all) + 1 {
		if got := crc.More(crc.Of(all[:cut]), all[cut:]); got != want {
			t.Errorf("cut at %d: %x, not %x", cut, got, want)
		}
	}
}

func TestMoreByteByByte(t *testing.T) {
	c := crc.Of(nil)
	for _, b := range []byte(letters) {
		c = crc.More(c, []byte{b})
	}
	if c != lettersSum {
		t.Errorf("%x", c)
	}
}

// Each number of 32 bits is the sum of some four bytes: so More has an answer for all of them.
func TestMoreOfAnySum(t *testing.T) {
	for _, c := range []uint32{0, 1, 7, 0x7fffffff, 0x80000000, 0x82f63b78, 0xfffffffe, 0xffffffff} {
		if crc.More(c, nil) != c || crc.More(c, []byte{}) != c {
			t.Errorf("no byte behind %x", c)
		}
		for n := range 20 {
			if p := mixed(n); crc.More(c, p) != bitByBit(c, p) {
				t.Errorf("%d bytes behind %x", n, c)
			}
		}
	}
}

func TestCallsCountsOfAndMore(t *testing.T) {
	was := crc.Calls()
	grown := func() uint64 { return crc.Calls() - was }
	if grown() != 0 || grown() != 0 {
		t.Error("Calls counts itself")
	}
	crc.Of([]byte(letters))
	if grown() != 1 {
		t.Error("Of", grown())
	}
	crc.More(7, []byte(letters))
	if grown() != 2 {
		t.Error("More", grown())
	}
	crc.Of(nil)
	crc.More(0, nil)
	if grown() != 4 {
		t.Error("of no byte", grown())
	}
	crc.Sum([]byte(letters))
	if grown() != 4 {
		t.Error("Sum is counted", grown())
	}
}

func TestWhatIsHandedInStays(t *testing.T) {
	p := mixed(100)
	was := bytes.Clone(p)
	c := crc.Of(p)
	more := crc.More(c, p)
	crc.Sum(p)
	if !bytes.Equal(p, was) {
		t.Error("written into")
	}
	clear(p)
	if crc.Of(was) != c || crc.More(c, was) != more {
		t.Error("another answer, when it was written over")
	}
}

func TestSeveralAtOnce(t *testing.T) {
	const callers, rounds = 8, 200
	p := mixed(64)
	want := bitByBit(0, p)
	was := crc.Calls()
	var all sync.WaitGroup
	for range callers {
		all.Go(func() {
			last := was
			for range rounds {
				if crc.Of(p) != want || crc.More(crc.Of(p[:30]), p[30:]) != want {
					t.Error("another sum")
				}
				now := crc.Calls()
				if now < last+3 {
					t.Error("calls are missing", last, now)
				}
				last = now
			}
		})
	}
	all.Wait()
	if n := crc.Calls() - was; n != callers*rounds*3 {
		t.Error(n)
	}
}
