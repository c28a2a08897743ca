package wal_test

import (
	"bytes"
	"testing"

	"carrier/api"
	"carrier/block"
	"carrier/wal"
)

// survivors opens a device behind a crash, and tells a fault if what is found isn't all that was synced, and some first ones
// of what was appended since.
func survivors(t *testing.T, d *block.Device, synced, since [][]byte) (*wal.Log, [][]byte) {
	t.Helper()
	l, found, e := wal.Open(d)
	if e != api.OK || len(found) < len(synced) || len(found) > len(synced)+len(since) {
		t.Fatalf("%d records: %d were synced, and %d appended since (%d)", len(found), len(synced), len(since), e)
	}
	all := append(append([][]byte{}, synced...), since...)[:len(found)]
	same(t, found, all)
	measures(t, l, d, all)
	holds(t, d, framed(all...))
	waits(t, d, 0)
	return l, all
}

// goesOn tells a fault if a log of some records doesn't go on behind them, as if nothing had ever been behind them.
func goesOn(t *testing.T, d *block.Device, l *wal.Log, all [][]byte) {
	t.Helper()
	for _, n := range []int{26, 10} {
		if n+head > l.Room() {
			break
		}
		p := record(n, 100+n)
		all = append(all, p)
		add(t, l, p)
		l.Sync()
	}
	safe(t, d, framed(all...))
	open(t, d, all...)
}

// eachCrash does it for all lists of what is lost of so many writes, and wherever the last one is torn.
func eachCrash(writes int, do func(lost []bool, torn int)) {
	for mask := range 1 << writes {
		lost := make([]bool, writes)
		for i := range lost {
			lost[i] = mask>>i&1 == 1
		}
		for torn := range whole + 1 {
			do(lost, torn)
		}
	}
}

func TestWhateverACrashLeaves(t *testing.T) {
	for _, c := range []struct {
		name          string
		synced, since [][]byte
	}{
		{"none synced, each just a block", nil, [][]byte{record(26, 1), record(26, 2), record(26, 3)}},
		{"short ones in one block", [][]byte{record(2, 1)}, [][]byte{record(3, 2), record(1, 3), record(2, 4)}},
		{"across blocks", [][]byte{record(10, 1), record(7, 2)}, [][]byte{record(20, 3), record(30, 4), record(2, 5)}},
		{"of several blocks", [][]byte{record(26, 1)}, [][]byte{record(80, 2), record(40, 3)}},
		{"behind a full block", [][]byte{record(26, 1), record(26, 2)}, [][]byte{record(26, 3), record(58, 4)}},
		{"noughts", [][]byte{make([]byte, 5)}, [][]byte{make([]byte, 50), make([]byte, 1), make([]byte, 26)}},
		{"frames within a record", nil, [][]byte{append(record(26, 1), framed(record(26, 2), record(20, 3))...), record(26, 4)}},
	} {
		t.Run(c.name, func(t *testing.T) {
			made := func() *block.Device {
				d := block.New(8)
				l := open(t, d)
				add(t, l, c.synced...)
				l.Sync()
				add(t, l, c.since...)
				return d
			}
			eachCrash(made().Waiting(), func(lost []bool, torn int) {
				d := made()
				d.Crash(lost, torn)
				l, all := survivors(t, d, c.synced, c.since)
				goesOn(t, d, l, all)
			})
		})
	}
}

// What wasn't lost is found: not just what was synced.
func TestWhatACrashDoesNotLose(t *testing.T) {
	l1, l2, l3 := record(20, 1), record(30, 2), record(26, 3)
	for _, c := range []struct {
		lost []bool
		torn int
		want [][]byte
	}{
		{nil, whole, [][]byte{l1, l2, l3}},
		{nil, 99, [][]byte{l1, l2, l3}},
		{nil, whole - 2, [][]byte{l1, l2, l3}}, // 94 bytes: all that is torn off is noughts
		{nil, whole - 3, [][]byte{l1, l2}},
		{nil, 0, [][]byte{l1, l2}},
		{[]bool{false, false, false, false, true}, whole, [][]byte{l1, l2}},
		{[]bool{false, false, true, false, true}, whole, [][]byte{l1, l2}}, // the third one's first block has the second one's end
		{[]bool{false, false, true, true, false}, whole, [][]byte{l1}},
		{[]bool{false, true, true, true, true}, whole, [][]byte{l1}},
		{[]bool{true, true, true, true, true}, whole, nil},
		{[]bool{true, false, true, false, false}, whole, [][]byte{l1, l2, l3}}, // later writes have all of these blocks
	} {
		d := block.New(5)
		l := open(t, d)
		add(t, l, l1, l2, l3)
		waits(t, d, 5)
		d.Crash(c.lost, c.torn)
		open(t, d, c.want...)
	}
}

// A record that is lost must not come back behind another one that takes just its place.
func TestWhatWasLostDoesNotComeBack(t *testing.T) {
	lost, stale, fresh := record(26, 1), record(26, 2), record(26, 3)
	d := block.New(4)
	l := open(t, d)
	add(t, l, lost, stale)
	d.Crash([]bool{true}, whole) // the second one alone is on the device
	l = open(t, d)
	holds(t, d, nil)
	add(t, l, fresh)
	l.Sync()
	open(t, d, fresh)
	d.Crash(nil, whole)
	open(t, d, fresh)
}

// The noughts that Open lays must be safe ahead of the next Append's writes.
func TestNoughtsAreSafeAheadOfTheNextRecord(t *testing.T) {
	fresh, stale := record(26, 1), record(26, 2)
	d := laid(t, 3, append(make([]byte, whole), framed(stale)...))
	l := open(t, d)
	add(t, l, fresh)
	d.Crash([]bool{false}, whole) // nothing but the new record's write waited
	open(t, d, fresh)
}

func TestCrashBehindCrash(t *testing.T) {
	d := block.New(12)
	var all [][]byte
	for round := range 40 {
		l, found := survivors(t, d, all, nil)
		all = found
		if round%4 == 0 && l.Room() > 40 {
			p := record(1+round%30, round)
			add(t, l, p)
			l.Sync()
			all = append(all, p)
		}
		since := [][]byte{record(3+round%40, 1), record(26, 2)}
		for i, p := range since {
			if l.Append(p) != api.OK {
				since = since[:i]
				break
			}
		}
		lost := make([]bool, d.Waiting())
		for i := range lost {
			lost[i] = (round+i)%3 == 0
		}
		d.Crash(lost, round%33)
		l, found = survivors(t, d, all, since)
		if l.Room() < 60 {
			d = block.New(12)
			found = nil
		}
		all = found
	}
}

// steps reads from bytes what is done to a log; what must be found is kept beside it.
func steps(t *testing.T, p []byte) {
	next := func() int {
		if len(p) == 0 {
			return 0
		}
		b := p[0]
		p = p[1:]
		return int(b)
	}
	d := block.New(next() % 12)
	l := open(t, d)
	var synced, since [][]byte
	for count := 0; len(p) > 0; count++ {
		all := append(append([][]byte{}, synced...), since...)
		switch next() % 8 {
		case 0:
			l.Sync()
			synced, since = all, nil
			waits(t, d, 0)
		case 1:
			was := d.Waiting()
			l = open(t, d, all...)
			waits(t, d, was)
		case 2:
			lost := make([]bool, d.Waiting())
			for i := range lost {
				lost[i] = next()%3 == 0
			}
			d.Crash(lost, next()%40-4)
			l, all = survivors(t, d, synced, since)
			synced, since = all, nil
		default:
			n := next() % 75
			if e := step(t, d, l, record(n, count)); e == api.OK {
				since = append(since, record(n, count))
				all = append(all, record(n, count))
			}
		}
		measures(t, l, d, all)
		holds(t, d, framed(all...))
	}
	l.Sync()
	safe(t, d, framed(append(synced, since...)...))
}

// step appends, and tells a fault if the answer, or how many writes wait, isn't as the promises word it.
func step(t *testing.T, d *block.Device, l *wal.Log, p []byte) api.Errno {
	t.Helper()
	was, from := d.Waiting(), l.Size()
	to := from + head + len(p)
	want, writes := api.OK, (to+whole-1)/whole-from/whole
	if len(p) == 0 {
		want, writes = api.ErrArg, 0
	} else if to > d.Size()*whole {
		want, writes = api.ErrFull, 0
	}
	e := l.Append(p)
	if e != want {
		t.Fatalf("Append of %d bytes behind %d on %d blocks: %d, not %d", len(p), from, d.Size(), e, want)
	}
	waits(t, d, was+writes)
	return e
}

// mixed is n bytes of all kinds.
func mixed(seed uint32, n int) []byte {
	p := make([]byte, n)
	x := seed
	for i := range p {
		x = x*1664525 + 1013904223
		p[i] = byte(x >> 24)
	}
	return p
}

func TestManySteps(t *testing.T) {
	for seed := range uint32(600) {
		steps(t, mixed(seed, 150))
	}
}

func FuzzSteps(f *testing.F) {
	f.Add(mixed(1, 60))
	f.Add([]byte{4, 3, 26, 3, 26, 2, 0, 1, 36, 3, 26, 0, 2, 1})
	f.Fuzz(steps)
}

// Whatever stands on a device, Open finds the frames with which it begins, as they are worded here, and no more.
func FuzzOpen(f *testing.F) {
	f.Add(framed(record(3, 1), record(40, 2)))
	f.Add(append(framed(record(3, 1)), 0, 1, 2))
	f.Fuzz(func(t *testing.T, all []byte) {
		n := min((len(all)+whole-1)/whole, api.MaxBlocks)
		all = all[:min(len(all), n*whole)]
		var want [][]byte
		for rest := behind(all, n*whole); len(rest) >= head; {
			k := int(rest[0])*256 + int(rest[1])
			if k < 1 || k > wal.MaxRecord || k > len(rest)-head || !bytes.Equal(rest[:head+k], told(k, rest[head:head+k])) {
				break
			}
			want = append(want, rest[head:head+k])
			rest = rest[head+k:]
		}
		cleaned(t, n, all, want...)
	})
}
