package block_test

import (
	"bytes"
	"slices"
	"testing"

	"carrier/api"
	"carrier/block"
)

func TestWriteHasItsOwnBytes(t *testing.T) {
	d := block.New(2)
	p := []byte("abc")
	d.Write(0, p)
	copy(p, "xyz")
	holds(t, d, "abc", "")
	d.Write(1, p)
	clear(p)
	holds(t, d, "abc", "xyz")
	d.Crash(nil, 2)
	holds(t, d, "abc", "xy")
}

func TestWhatWaitsIsNotOverwritten(t *testing.T) {
	d := block.New(1)
	p := []byte("abc")
	d.Write(0, p)
	copy(p, "xyz")
	d.Write(0, p[:1])
	clear(p)
	d.Crash([]bool{false, true}, 0)
	holds(t, d, "abc")
}

func TestSyncedIsNotOverwritten(t *testing.T) {
	d := block.New(1)
	p := []byte("abc")
	d.Write(0, p)
	d.Sync()
	clear(p)
	holds(t, d, "abc")
	safe(t, d, "abc")
}

func TestWriteWritesNotIntoWhatItWasHanded(t *testing.T) {
	long := bytes.Repeat([]byte("p"), 64)
	d := block.New(1)
	write(t, d, 0, "safe")
	d.Sync()
	for _, n := range []int{0, 1, 5, 32, 33} {
		d.Write(0, long[:n]) // there is room behind
		d.Write(0, []byte("another"))
		d.Sync()
		d.Write(0, long[:n])
		d.Crash(nil, 1)
	}
	if !bytes.Equal(long, bytes.Repeat([]byte("p"), 64)) {
		t.Errorf("%q", long)
	}
}

func TestReadIsTheCallers(t *testing.T) {
	d := block.New(2)
	write(t, d, 0, "abc")
	d.Sync()
	write(t, d, 1, "def")
	p, _ := d.Read(0)
	q, _ := d.Read(1)
	again, _ := d.Read(1)
	copy(p, "wxyz")
	clear(q)
	if !bytes.Equal(again, whole("def")) {
		t.Errorf("two answers share: %q", again)
	}
	holds(t, d, "abc", "def")
	if more := append(p, 9); len(more) != 33 || !bytes.Equal(again, whole("def")) {
		t.Error("room behind")
	}
	holds(t, d, "abc", "def")
	d.Crash(nil, untorn)
	holds(t, d, "abc", "def")
}

func TestReadStaysAsItWas(t *testing.T) {
	d := block.New(1)
	write(t, d, 0, "abc")
	was, _ := d.Read(0)
	write(t, d, 0, "xyz")
	d.Sync()
	write(t, d, 0, "uvw")
	d.Crash(nil, 1)
	if !bytes.Equal(was, whole("abc")) {
		t.Errorf("%q", was)
	}
}

func TestWhatWasReadMayBeWritten(t *testing.T) {
	d := block.New(2)
	write(t, d, 0, "abc")
	p, _ := d.Read(0)
	if d.Write(1, p) != api.OK {
		t.Error("refused")
	}
	clear(p)
	holds(t, d, "abc", "abc")
	write(t, d, 0, "x")
	holds(t, d, "xbc", "abc")
}

func TestCrashWritesNotIntoWhatItWasHanded(t *testing.T) {
	d := block.New(1)
	lost := []bool{true, false, true, false, false}
	was := slices.Clone(lost)
	for range 3 {
		write(t, d, 0, "a")
		write(t, d, 0, "b")
		d.Crash(lost[:3], 1)
	}
	if !slices.Equal(lost, was) {
		t.Error(lost)
	}
	clear(lost)
	holds(t, d, "b")
}

func TestDevicesShareNothing(t *testing.T) {
	a, b := block.New(2), block.New(2)
	write(t, a, 0, "a")
	write(t, b, 1, "b")
	waits(t, a, 1)
	waits(t, b, 1)
	holds(t, a, "a", "")
	holds(t, b, "", "b")
	a.Sync()
	waits(t, b, 1)
	b.Crash([]bool{true}, 0)
	holds(t, a, "a", "")
	holds(t, b, "", "")
}
