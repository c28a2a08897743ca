package block_test

import (
	"bytes"
	"math"
	"strings"
	"testing"

	"carrier/api"
	"carrier/block"
)

// whole is a block that begins with s, and has noughts behind it.
func whole(s string) []byte {
	p := make([]byte, api.BlockSize)
	copy(p, s)
	return p
}

// holds tells a fault if the device's blocks don't begin with these texts, with noughts behind each.
func holds(t *testing.T, d *block.Device, want ...string) {
	t.Helper()
	if d.Size() != len(want) {
		t.Fatalf("%d blocks, not %d", d.Size(), len(want))
	}
	for i, s := range want {
		if p, e := d.Read(i); e != api.OK || !bytes.Equal(p, whole(s)) {
			t.Errorf("block %d is %q, not %q (%d)", i, p, s, e)
		}
	}
}

// safe tells a fault if what a crash leaves, of which all that waits is lost, isn't this.
func safe(t *testing.T, d *block.Device, want ...string) {
	t.Helper()
	d.Crash(allLost(d), 0)
	holds(t, d, want...)
}

func allLost(d *block.Device) []bool {
	lost := make([]bool, d.Waiting())
	for i := range lost {
		lost[i] = true
	}
	return lost
}

// write writes texts that may be written.
func write(t *testing.T, d *block.Device, i int, p string) {
	t.Helper()
	if e := d.Write(i, []byte(p)); e != api.OK {
		t.Fatalf("Write(%d, %q): %d", i, p, e)
	}
}

func waits(t *testing.T, d *block.Device, want int) {
	t.Helper()
	if n := d.Waiting(); n != want {
		t.Errorf("%d wait, not %d", n, want)
	}
}

func TestSizeIsTheNearest(t *testing.T) {
	for _, c := range []struct{ n, want int }{
		{0, 0},
		{1, 1},
		{2, 2},
		{400, 400},
		{api.MaxBlocks - 1, api.MaxBlocks - 1},
		{api.MaxBlocks, api.MaxBlocks},
		{api.MaxBlocks + 1, api.MaxBlocks},
		{math.MaxInt32, api.MaxBlocks},
		{math.MaxInt, api.MaxBlocks},
		{-1, 0},
		{math.MinInt32, 0},
		{math.MinInt, 0},
	} {
		d := block.New(c.n)
		if d == nil || d.Size() != c.want {
			t.Errorf("New(%d) has %d blocks, not %d", c.n, d.Size(), c.want)
		}
	}
}

func TestNewDeviceIsNoughtsAllSafe(t *testing.T) {
	for _, n := range []int{0, 1, 3, api.MaxBlocks} {
		d := block.New(n)
		waits(t, d, 0)
		holds(t, d, make([]string, n)...)
		d.Crash(nil, 0)
		holds(t, d, make([]string, n)...)
	}
}

func TestWriteIsReadAtOnce(t *testing.T) {
	d := block.New(3)
	write(t, d, 1, "ab")
	holds(t, d, "", "ab", "")
	write(t, d, 0, "first")
	write(t, d, 2, "last")
	holds(t, d, "first", "ab", "last")
	waits(t, d, 3)
}

func TestWriteLeavesTheBytesBehind(t *testing.T) {
	d := block.New(2)
	for _, c := range []struct{ p, want string }{
		{"abcdef", "abcdef"},
		{"XY", "XYcdef"},
		{"", "XYcdef"},
		{"\x00", "\x00Ycdef"},
		{strings.Repeat("w", 32), strings.Repeat("w", 32)},
		{strings.Repeat("v", 31), strings.Repeat("v", 31) + "w"},
		{"z", "z" + strings.Repeat("v", 30) + "w"},
	} {
		write(t, d, 1, c.p)
		holds(t, d, "", c.want)
	}
	waits(t, d, 7)
	d.Sync()
	safe(t, d, "", "z"+strings.Repeat("v", 30)+"w")
}

func TestWriteOfEachLength(t *testing.T) {
	full := strings.Repeat("f", api.BlockSize)
	long := strings.Repeat("l", 2*api.BlockSize)
	for n := range 2*api.BlockSize + 1 {
		d := block.New(1)
		write(t, d, 0, full)
		d.Sync()
		e := d.Write(0, []byte(long[:n]))
		if n > api.BlockSize {
			if e != api.ErrArg {
				t.Errorf("%d bytes: %d", n, e)
			}
			waits(t, d, 0)
			holds(t, d, full)
			continue
		}
		if e != api.OK {
			t.Errorf("%d bytes: %d", n, e)
		}
		waits(t, d, 1)
		holds(t, d, long[:n]+full[n:])
		d.Sync()
		safe(t, d, long[:n]+full[n:])
	}
}

func TestWriteOfNoByteWaits(t *testing.T) {
	d := block.New(1)
	write(t, d, 0, "ab")
	d.Sync()
	if d.Write(0, nil) != api.OK || d.Write(0, []byte{}) != api.OK {
		t.Error("refused")
	}
	waits(t, d, 2)
	holds(t, d, "ab")
	d.Crash(nil, 32)
	holds(t, d, "ab")
}

func TestWriteRefuses(t *testing.T) {
	for _, n := range []int{0, 1, 3, api.MaxBlocks} {
		d := block.New(n)
		want := make([]string, n)
		for i := range min(n, 2) {
			want[i] = "kept"
			write(t, d, i, "kept")
		}
		for _, c := range []struct {
			i int
			p []byte
		}{
			{n, []byte("a")},
			{n, nil},
			{n + 1, []byte("a")},
			{api.MaxBlocks, []byte("a")},
			{math.MaxInt32, []byte("a")},
			{math.MaxInt, []byte("a")},
			{-1, []byte("a")},
			{-1, nil},
			{-api.BlockSize, []byte("a")},
			{math.MinInt, []byte("a")},
			{0, make([]byte, api.BlockSize+1)},
			{0, make([]byte, 1<<20)},
			{n - 1, bytes.Repeat([]byte("a"), api.BlockSize+1)},
			{n, make([]byte, api.BlockSize+1)},
			{-1, make([]byte, api.BlockSize+1)},
		} {
			if e := d.Write(c.i, c.p); e != api.ErrArg {
				t.Errorf("%d blocks: Write(%d, %d bytes): %d", n, c.i, len(c.p), e)
			}
			waits(t, d, min(n, 2))
		}
		holds(t, d, want...)
		d.Sync()
		safe(t, d, want...)
	}
}

func TestReadRefuses(t *testing.T) {
	for _, n := range []int{0, 1, 3, api.MaxBlocks} {
		d := block.New(n)
		for _, i := range []int{n, n + 1, api.MaxBlocks, math.MaxInt, -1, -2, math.MinInt} {
			if p, e := d.Read(i); e != api.ErrArg || len(p) != 0 {
				t.Errorf("%d blocks: Read(%d): %q %d", n, i, p, e)
			}
		}
		waits(t, d, 0)
	}
}

func TestFirstAndLastBlock(t *testing.T) {
	d := block.New(api.MaxBlocks)
	want := make([]string, api.MaxBlocks)
	want[0], want[api.MaxBlocks-1] = "first", "last"
	write(t, d, 0, "first")
	write(t, d, api.MaxBlocks-1, "last")
	holds(t, d, want...)
	d.Sync()
	safe(t, d, want...)
}

func TestWaitingCountsEachWrite(t *testing.T) {
	d := block.New(2)
	for i := range 100 {
		waits(t, d, i)
		write(t, d, 0, "the same")
	}
	write(t, d, 1, "another")
	waits(t, d, 101)
	d.Read(0)
	waits(t, d, 101)
	d.Sync()
	waits(t, d, 0)
	write(t, d, 0, "a")
	waits(t, d, 1)
	d.Sync()
	d.Sync()
	waits(t, d, 0)
}

func TestSyncMakesAllSafe(t *testing.T) {
	d := block.New(3)
	write(t, d, 0, "aaaa")
	write(t, d, 2, "cc")
	write(t, d, 0, "b")
	d.Sync()
	holds(t, d, "baaa", "", "cc")
	safe(t, d, "baaa", "", "cc")
}

// Not just the writes since the last Sync, and not just those of one block.
func TestSyncBehindSync(t *testing.T) {
	d := block.New(2)
	write(t, d, 0, "aaaa")
	d.Sync()
	write(t, d, 1, "bbbb")
	d.Sync()
	write(t, d, 0, "c")
	write(t, d, 1, "c")
	d.Sync()
	write(t, d, 0, "dddd")
	write(t, d, 1, "dddd")
	safe(t, d, "caaa", "cbbb")
}

func TestWhatWaitsIsNotSafe(t *testing.T) {
	d := block.New(2)
	write(t, d, 0, "old")
	d.Sync()
	write(t, d, 0, "new")
	write(t, d, 1, "new")
	safe(t, d, "old", "")
}

func TestNilDevice(t *testing.T) {
	var d *block.Device
	nothing := func() {
		t.Helper()
		if d.Size() != 0 || d.Waiting() != 0 {
			t.Error(d.Size(), d.Waiting())
		}
		for _, i := range []int{0, 1, -1, math.MaxInt, math.MinInt} {
			if p, e := d.Read(i); e != api.ErrNone || len(p) != 0 {
				t.Errorf("Read(%d): %q %d", i, p, e)
			}
			for _, p := range [][]byte{nil, {}, []byte("a"), make([]byte, 32), make([]byte, 33), make([]byte, 1000)} {
				if e := d.Write(i, p); e != api.ErrNone {
					t.Errorf("Write(%d, %d bytes): %d", i, len(p), e)
				}
			}
		}
	}
	nothing()
	d.Sync()
	nothing()
	for _, torn := range []int{0, 1, -1, 33, math.MaxInt, math.MinInt} {
		d.Crash(nil, torn)
		d.Crash([]bool{}, torn)
		d.Crash([]bool{true, false}, torn)
	}
	nothing()
}
