package wal_test

import (
	"bytes"
	"fmt"
	"testing"

	"carrier/api"
	"carrier/block"
	"carrier/wal"
)

func TestAppendIsThereAtOnce(t *testing.T) {
	d := block.New(10)
	l := open(t, d)
	var all [][]byte
	for i, n := range []int{1, 2, 26, 3, 90, 1, 26, 58} {
		p := record(n, i)
		add(t, l, p)
		all = append(all, p)
		measures(t, l, d, all)
		holds(t, d, framed(all...))
		open(t, d, all...)
	}
}

func TestAppendBehindWhatWasFound(t *testing.T) {
	for n := 1; n <= 70; n++ {
		first, second, third := record(n, 1), record(40, 2), record(1, 3)
		d := laid(t, 6, behind(framed(first), n+head, 0, 0, 7))
		l := open(t, d, first)
		add(t, l, second, third)
		holds(t, d, framed(first, second, third))
		l.Sync()
		safe(t, d, framed(first, second, third))
		open(t, d, first, second, third)
	}
}

func TestAppendOfEachLength(t *testing.T) {
	for n := range wal.MaxRecord + 3 {
		d := block.New(127)
		l := open(t, d)
		p := record(n, n)
		want := api.OK
		if n == 0 || n > wal.MaxRecord {
			want = api.ErrArg
		}
		if e := l.Append(p); e != want {
			t.Fatalf("%d bytes: %d, not %d", n, e, want)
		}
		if want != api.OK {
			waits(t, d, 0)
			measures(t, l, d, nil)
			holds(t, d, nil)
			continue
		}
		waits(t, d, (n+head+whole-1)/whole)
		measures(t, l, d, [][]byte{p})
		holds(t, d, framed(p))
	}
}

// blocksWritten are those into which the i-th write of all that wait goes, for each i: found by crashes that leave just that one.
func blocksWritten(t *testing.T, make func() *block.Device) []int {
	t.Helper()
	was := make()
	writes := was.Waiting()
	was.Crash(allLost(was), 0)
	var found []int
	for i := range writes {
		d := make()
		lost := allLost(d)
		lost[i] = false
		d.Crash(lost, whole)
		before, after := content(was), content(d)
		at := -1
		for k := range d.Size() {
			if !bytes.Equal(before[k*whole:][:whole], after[k*whole:][:whole]) {
				if at >= 0 {
					t.Fatalf("write %d goes into blocks %d and %d", i, at, k)
				}
				at = k
			}
		}
		found = append(found, at)
	}
	return found
}

func TestAppendWritesJustItsBlocksRising(t *testing.T) {
	for _, c := range []struct {
		ahead, n int
		want     []int
	}{
		{0, 1, []int{0}},
		{0, 25, []int{0}},
		{0, 26, []int{0}}, // ends just at the block's end: the next one isn't written
		{0, 27, []int{0, 1}},
		{0, 58, []int{0, 1}},
		{0, 59, []int{0, 1, 2}},
		{0, 200, []int{0, 1, 2, 3, 4, 5, 6}},
		{1, 19, []int{0}},
		{1, 20, []int{0, 1}},
		{18, 2, []int{0}},
		{18, 3, []int{0, 1}},
		{24, 1, []int{0, 1}}, // two bytes of it in the first block
		{24, 28, []int{0, 1}},
		{24, 29, []int{0, 1, 2}},
		{25, 256, []int{0, 1, 2, 3, 4, 5, 6, 7, 8, 9}}, // one byte of it
		{26, 1, []int{1}},                              // what is ahead ends just at the block's end: it isn't written again
		{26, 26, []int{1}},
		{26, 27, []int{1, 2}},
		{58, 90, []int{2, 3, 4}},
		{60, 90, []int{2, 3, 4, 5}},
	} {
		t.Run(fmt.Sprint(c.ahead, c.n), func(t *testing.T) {
			appended := func() *block.Device {
				d := block.New(12)
				l := open(t, d)
				if c.ahead > 0 {
					add(t, l, record(c.ahead, 1))
				}
				l.Sync()
				add(t, l, record(c.n, 2))
				return d
			}
			if got := blocksWritten(t, appended); fmt.Sprint(got) != fmt.Sprint(c.want) {
				t.Error(got, "not", c.want)
			}
		})
	}
}

// A block is written whole: an older write of it that is lost takes nothing along.
func TestAppendWritesWholeBlocks(t *testing.T) {
	l1, l2, l3 := record(3, 1), record(4, 2), record(50, 3)
	d := block.New(4)
	l := open(t, d)
	add(t, l, l1, l2, l3)
	waits(t, d, 5)
	d.Crash([]bool{true, true}, whole)
	holds(t, d, framed(l1, l2, l3))
	open(t, d, l1, l2, l3)

	d = block.New(4)
	l = open(t, d)
	add(t, l, record(40, 1), record(5, 2)) // the second write of block 1 has the first record's end
	waits(t, d, 3)
	d.Crash([]bool{false, true}, whole)
	open(t, d, record(40, 1), record(5, 2))
}

func TestAppendsThatWait(t *testing.T) {
	d := block.New(20)
	l := open(t, d)
	want := 0
	for i, c := range []struct{ n, writes int }{{1, 1}, {19, 1}, {26, 1}, {20, 1}, {1, 2}, {100, 4}, {1, 1}} {
		add(t, l, record(c.n, i))
		want += c.writes
		waits(t, d, want)
	}
	l.Sync()
	waits(t, d, 0)
	add(t, l, record(1, 9))
	waits(t, d, 1)
}

func TestRoom(t *testing.T) {
	for blocks := 1; blocks <= 5; blocks++ {
		for ahead := range 2*whole + 1 {
			if ahead > 0 && ahead <= head || ahead > blocks*whole {
				continue
			}
			full := func() (*block.Device, *wal.Log, [][]byte) {
				d := block.New(blocks)
				l := open(t, d)
				var all [][]byte
				if ahead > 0 {
					all = append(all, record(ahead-head, 1))
					add(t, l, all[0])
				}
				l.Sync()
				return d, l, all
			}
			fits := blocks*whole - ahead - head
			d, l, all := full()
			if l.Room() != fits+head {
				t.Fatal(l.Room(), fits)
			}
			for _, more := range []int{1, 2, head, whole} { // what fits not
				if n := fits + more; n > 0 {
					if e := l.Append(record(n, 2)); e != api.ErrFull {
						t.Fatalf("%d bytes with %d ahead on %d blocks: %d", n, ahead, blocks, e)
					}
				}
			}
			waits(t, d, 0)
			measures(t, l, d, all)
			holds(t, d, framed(all...))
			if fits < 1 {
				continue
			}
			add(t, l, record(fits, 2))
			if l.Room() != 0 || l.Append([]byte{1}) != api.ErrFull {
				t.Fatal(l.Room())
			}
			l.Sync()
			safe(t, d, framed(append(all, record(fits, 2))...))
			open(t, d, append(all, record(fits, 2))...)
		}
	}
}

func TestNoRoom(t *testing.T) {
	d := block.New(0)
	l := open(t, d)
	for _, n := range []int{1, 26, wal.MaxRecord} {
		if e := l.Append(record(n, 1)); e != api.ErrFull {
			t.Error(n, e)
		}
	}
	l.Sync()
	waits(t, d, 0)
	open(t, d)
}

// A frame's head finds room, and of its record not one byte.
func TestRoomForAHeadAlone(t *testing.T) {
	for left := range head + 1 {
		first := record(whole-head-left, 1)
		d := laid(t, 1, framed(first))
		l := open(t, d, first)
		if e := l.Append([]byte{1}); e != api.ErrFull || l.Room() != left {
			t.Error(left, e, l.Room())
		}
		holds(t, d, framed(first))
	}
}

func TestErrorsInTheirOrder(t *testing.T) {
	for _, blocks := range []int{0, 1, api.MaxBlocks} {
		d := block.New(blocks)
		l := open(t, d)
		for _, p := range [][]byte{nil, {}, make([]byte, wal.MaxRecord+1), make([]byte, 1<<16), make([]byte, 1<<16+5), make([]byte, 1<<18)} {
			if e := l.Append(p); e != api.ErrArg {
				t.Errorf("%d bytes on %d blocks: %d", len(p), blocks, e)
			}
		}
		waits(t, d, 0)
		measures(t, l, d, nil)
	}
}

// An error changes nothing: neither what waits, nor where the next record goes.
func TestAppendThatIsRefusedChangesNothing(t *testing.T) {
	first, second := record(30, 1), record(20, 2)
	d := block.New(2)
	l := open(t, d)
	add(t, l, first)
	for _, p := range [][]byte{nil, {}, record(23, 3), record(58, 3), record(wal.MaxRecord, 3), record(wal.MaxRecord+1, 3)} {
		if e := l.Append(p); e == api.OK {
			t.Error(len(p))
		}
		waits(t, d, 2)
		measures(t, l, d, [][]byte{first})
		holds(t, d, framed(first))
	}
	add(t, l, second)
	holds(t, d, framed(first, second))
	l.Sync()
	safe(t, d, framed(first, second))
}

func TestFullDevice(t *testing.T) {
	d := block.New(api.MaxBlocks)
	l := open(t, d)
	var all [][]byte
	for i := 0; l.Room() > head; i++ {
		n := min([]int{wal.MaxRecord, 1, 26, 3999, 700}[i%5], l.Room()-head)
		all = append(all, record(n, i))
		add(t, l, all[i])
	}
	measures(t, l, d, all)
	holds(t, d, framed(all...))
	l.Sync()
	safe(t, d, framed(all...))
	open(t, d, all...)
}

func TestSync(t *testing.T) {
	first, second := record(40, 1), record(3, 2)
	d := block.New(4)
	l := open(t, d)
	l.Sync()
	add(t, l, first)
	l.Sync()
	waits(t, d, 0)
	l.Sync()
	add(t, l, second)
	measures(t, l, d, [][]byte{first, second})
	safe(t, d, framed(first))
	l = open(t, d, first)
	add(t, l, second)
	l.Sync()
	safe(t, d, framed(first, second))
	open(t, d, first, second)
}
