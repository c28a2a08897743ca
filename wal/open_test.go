package wal_test

import (
	"bytes"
	"fmt"
	"slices"
	"testing"

	"carrier/api"
	"carrier/block"
	"carrier/wal"
)

// cleaned opens a device of n blocks that holds these bytes, and tells a fault if just these records aren't found, or if all
// behind them isn't noughts and safe.
func cleaned(t *testing.T, n int, all []byte, want ...[]byte) {
	t.Helper()
	d := laid(t, n, all)
	open(t, d, want...)
	waits(t, d, 0)
	holds(t, d, framed(want...))
	safe(t, d, framed(want...))
	open(t, d, want...)
	waits(t, d, 0)
}

// behind is bytes with some other ones from that place on.
func behind(all []byte, at int, other ...byte) []byte {
	if len(all) > at {
		panic("not behind")
	}
	return append(append(bytes.Clone(all), make([]byte, at-len(all))...), other...)
}

func TestOpenOfNewDevices(t *testing.T) {
	for _, n := range []int{0, 1, 2, 4, api.MaxBlocks} {
		d := block.New(n)
		l := open(t, d)
		if l.Size() != 0 || l.Room() != n*api.BlockSize {
			t.Error(n, l.Size(), l.Room())
		}
		waits(t, d, 0)
		holds(t, d, nil)
	}
}

func TestOpenFindsFrames(t *testing.T) {
	for _, sizes := range [][]int{
		{1},
		{2},
		{whole - head - 1},
		{whole - head}, // ends just at a block's end
		{whole - head + 1},
		{2*whole - head},
		{200},
		{255},
		{256},
		{257},
		{wal.MaxRecord - 1},
		{wal.MaxRecord},
		{1, 1, 1, 1, 1, 1},
		{26, 26, 26},
		{10, 10, 58, 26, 90},
		{2, 50, 2, 1},
		{wal.MaxRecord, 1, wal.MaxRecord},
	} {
		t.Run(fmt.Sprint(sizes), func(t *testing.T) {
			var l [][]byte
			for i, n := range sizes {
				l = append(l, record(n, i))
			}
			all := framed(l...)
			fits := (len(all) + whole - 1) / whole
			for _, n := range []int{fits, fits + 1, fits + 5, api.MaxBlocks} {
				cleaned(t, n, all, l...)
			}
		})
	}
}

func TestOpenFindsRecordsOfNoughts(t *testing.T) {
	l := [][]byte{make([]byte, 1), make([]byte, 26), make([]byte, 300), record(3, 1), make([]byte, 40)}
	cleaned(t, 20, framed(l...), l...)
}

func TestOpenFindsFramesUpToTheLastByte(t *testing.T) {
	for n := 1; n <= 126; n++ {
		p := record(min(n*whole-head, wal.MaxRecord), n)
		cleaned(t, n, framed(p), p)
	}
	two := [][]byte{record(20, 1), record(2*whole-26-head, 2)}
	cleaned(t, 2, framed(two...), two...)
	short := [][]byte{record(whole-head-7, 1), record(1, 2)} // the least frame there is
	cleaned(t, 1, framed(short...), short...)
	var full [][]byte
	for range api.MaxBlocks {
		full = append(full, record(whole-head, len(full)))
	}
	cleaned(t, api.MaxBlocks, framed(full...), full...)
}

// Too few bytes are left for a frame's head.
func TestOpenOfHeadsThatAreCut(t *testing.T) {
	for left := range head + 1 {
		first := record(2*whole-head-left, left)
		next := framed(record(1, 9))[:left]
		cleaned(t, 2, append(framed(first), next...), first)
	}
}

// What a frame tells is more than the device has.
func TestOpenOfFramesThatAreCut(t *testing.T) {
	first := record(10, 1)
	for cut := 1; cut <= 40; cut++ {
		rest := 3*whole - len(framed(first)) - head
		next := framed(record(rest+cut, 2))
		cleaned(t, 3, append(framed(first), next...)[:3*whole], first)
		cleaned(t, 3, append(framed(first), told(rest+cut, next[head:head+rest])...), first) // even if what is there has a right sum
	}
	for _, n := range []int{32, 255, 256, wal.MaxRecord, wal.MaxRecord + 1, 0x7fff, 0x8000, 0xffff} {
		cleaned(t, 1, told(n, record(26, 3)))
	}
}

func TestOpenOfFramesThatTellNoByte(t *testing.T) {
	first, next := record(5, 1), record(6, 2)
	cleaned(t, 3, told(0, nil))
	cleaned(t, 3, append(told(0, nil), framed(next)...))
	cleaned(t, 3, append(append(framed(first), told(0, nil)...), framed(next)...), first)
	cleaned(t, 3, append(append(framed(first), 0, 0, 0, 0, 0, 0), framed(next)...), first)
}

func TestOpenOfFramesThatTellTooMuch(t *testing.T) {
	first := record(5, 1)
	for _, n := range []int{wal.MaxRecord + 1, wal.MaxRecord + 2, 4096, 0x7fff, 0x8000, 0xffff} {
		next := told(n, record(n, 2))
		cleaned(t, api.MaxBlocks, next)
		cleaned(t, api.MaxBlocks, append(framed(first), next...), first)
	}
}

// Each byte of a frame, turned, makes it none; what is behind it isn't found either.
func TestOpenOfSumsThatAreNotRight(t *testing.T) {
	l := [][]byte{record(7, 1), record(30, 2), record(9, 3)}
	all := framed(l...)
	ends := []int{0, head + 7, head + 7 + head + 30, len(all)}
	for frame := range l {
		for at := ends[frame]; at < ends[frame+1]; at++ {
			for _, turn := range []byte{1, 0x10, 0x80, 0xff} {
				wrong := bytes.Clone(all)
				wrong[at] ^= turn
				cleaned(t, 4, wrong, l[:frame]...)
			}
		}
	}
}

func TestOpenOfSumsOfSomethingElse(t *testing.T) {
	p := record(20, 1)
	right := framed(p)
	backwards := bytes.Clone(right)
	slices.Reverse(backwards[2:head])
	ofRecord := bytes.Clone(right)
	copy(ofRecord[2:], told(0x1414, nil)[2:head])
	for _, wrong := range [][]byte{
		backwards,
		ofRecord,
		append([]byte{20, 0}, right[2:]...),
		right[1:],
		append([]byte{0}, right...),
	} {
		cleaned(t, 2, wrong)
	}
}

func TestOpenMakesNoughtsBehind(t *testing.T) {
	l := [][]byte{record(10, 1), record(20, 2)} // 42 bytes: up to the second block's tenth
	all := framed(l...)
	stale := framed(record(15, 3))
	for _, c := range []struct {
		name string
		all  []byte
	}{
		{"just behind", behind(all, 42, 9)},
		{"in its own block", behind(all, 50, 9)},
		{"at its own block's end", behind(all, 63, 9)},
		{"at the next one's begin", behind(all, 64, 9)},
		{"in the next one", behind(all, 70, 1, 0, 2)},
		{"far behind", behind(all, 32*300+5, 0xff)},
		{"at the device's last byte", behind(all, 32*400-1, 1)},
		{"in its own one and far behind", behind(behind(all, 44, 7), 32*350, 8)},
		{"in each block", behind(all, 42, record(32*400-42, 4)...)},
		{"a frame, in its own block", behind(all, 43, stale...)},
		{"a frame, in the next one", behind(all, 64, stale...)},
		{"a frame, far behind", behind(all, 32*200, stale...)},
	} {
		t.Run(c.name, func(t *testing.T) {
			cleaned(t, 400, c.all, l...)
		})
	}
}

func TestOpenMakesNoughtsOfAllWithoutARecord(t *testing.T) {
	for _, n := range []int{1, 2, 5, api.MaxBlocks} {
		cleaned(t, n, bytes.Repeat([]byte{0xff}, n*whole))
		cleaned(t, n, record(n*whole, n))
		cleaned(t, n, behind(nil, n*whole-1, 1))
		cleaned(t, n, behind(nil, 5, 1))
		cleaned(t, n, []byte{0, 0, 1})
	}
}

func TestOpenMakesNoughtsBehindAFullBlock(t *testing.T) {
	p := record(whole-head, 1)
	cleaned(t, 1, framed(p), p)
	cleaned(t, 2, behind(framed(p), whole, 3), p)
	cleaned(t, 2, behind(framed(p), 2*whole-1, 3), p)
	cleaned(t, 3, append(framed(p), behind(nil, whole, framed(p)...)...), p)
}

// Where there was nothing to do, nothing was written, and what waited waits on.
func TestOpenOfNoughtsBehindSyncsNothing(t *testing.T) {
	p := record(20, 1)
	d := block.New(4)
	d.Write(0, framed(p))
	for range 3 {
		open(t, d, p)
		waits(t, d, 1)
	}
	safe(t, d, nil)
	open(t, d)

	d.Write(3, []byte{0, 0, 0})
	open(t, d)
	waits(t, d, 1)
}

// Where there was something to do, all is safe behind it: what waited, too.
func TestOpenOfOthersBehindSyncs(t *testing.T) {
	p := record(20, 1)
	for _, at := range []int{26, 31, 32, 127} {
		d := block.New(4)
		d.Write(at/whole, behind(nil, at%whole, 5))
		d.Write(0, framed(p))
		if at < whole {
			d.Write(0, behind(framed(p), at, 5))
		}
		open(t, d, p)
		waits(t, d, 0)
		safe(t, d, framed(p))
		open(t, d, p)
	}
}

// What is safe already counts no less: noughts must take its place.
func TestOpenMakesNoughtsSafe(t *testing.T) {
	d := laid(t, 3, behind(framed(record(5, 1)), 90, 1, 2, 3))
	open(t, d, record(5, 1))
	d.Crash(nil, 0)
	holds(t, d, framed(record(5, 1)))
}

func TestSecondOpenDoesNothing(t *testing.T) {
	d := laid(t, 6, behind(framed(record(5, 1)), 40, record(100, 2)...))
	l := open(t, d, record(5, 1))
	add(t, l, record(30, 3))
	waits(t, d, 2)
	for range 3 {
		l = open(t, d, record(5, 1), record(30, 3))
		waits(t, d, 2)
	}
	add(t, l, record(1, 4))
	waits(t, d, 3)
	safe(t, d, framed(record(5, 1)))
}

func TestOpenOfJunk(t *testing.T) {
	for seed := range 300 {
		n := 1 + seed%7
		p := record(seed%40+1, seed)
		junk := record(n*whole, seed)
		if seed%2 == 0 {
			junk[0] = 0
		}
		cleaned(t, n, junk)
		if all := framed(p); len(all) < n*whole {
			cleaned(t, n, append(all, junk[len(all):]...), p)
		}
	}
}
