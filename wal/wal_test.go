package wal_test

import (
	"bytes"
	"hash/crc32"
	"testing"

	"carrier/api"
	"carrier/block"
	"carrier/wal"
)

const (
	head  = 6 // bytes of a frame ahead of its record
	whole = api.BlockSize
)

// framed is what the promises word: these records' frames, one behind the other.
func framed(records ...[]byte) []byte {
	var all []byte
	for _, p := range records {
		all = append(all, told(len(p), p)...)
	}
	return all
}

// told is a frame that tells n bytes, whatever p has, with the sum of just that.
func told(n int, p []byte) []byte {
	length := []byte{byte(n / 256), byte(n % 256)}
	sum := crc32.Checksum(append(bytes.Clone(length), p...), crc32.MakeTable(crc32.Castagnoli))
	f := append(length, byte(sum>>24), byte(sum>>16), byte(sum>>8), byte(sum))
	return append(f, p...)
}

// record is n bytes, none of them a nought, of its own for each seed.
func record(n, seed int) []byte {
	p := make([]byte, n)
	for i := range p {
		p[i] = byte(1 + (seed*7919+i*31+i*i)%255)
	}
	return p
}

// laid is a device of n blocks with these bytes from its first one on, all safe.
func laid(t *testing.T, n int, all []byte) *block.Device {
	t.Helper()
	d := block.New(n)
	if len(all) > n*whole {
		t.Fatalf("%d bytes on %d blocks", len(all), n)
	}
	for i := 0; i*whole < len(all); i++ {
		if e := d.Write(i, all[i*whole:min(len(all), (i+1)*whole)]); e != api.OK {
			t.Fatal(e)
		}
	}
	d.Sync()
	return d
}

func content(d *block.Device) []byte {
	var all []byte
	for i := range d.Size() {
		p, _ := d.Read(i)
		all = append(all, p...)
	}
	return all
}

// holds tells a fault if the device isn't these bytes, with noughts behind them.
func holds(t *testing.T, d *block.Device, all []byte) {
	t.Helper()
	want := make([]byte, d.Size()*whole)
	copy(want, all)
	if got := content(d); !bytes.Equal(got, want) {
		for i := range want {
			if got[i] != want[i] {
				t.Fatalf("byte %d of the device is %x, not %x", i, got[i], want[i])
			}
		}
	}
}

// safe tells a fault if a crash that loses all that waits doesn't leave these bytes.
func safe(t *testing.T, d *block.Device, all []byte) {
	t.Helper()
	d.Crash(allLost(d), 0)
	holds(t, d, all)
}

func allLost(d *block.Device) []bool {
	lost := make([]bool, d.Waiting())
	for i := range lost {
		lost[i] = true
	}
	return lost
}

func waits(t *testing.T, d *block.Device, want int) {
	t.Helper()
	if n := d.Waiting(); n != want {
		t.Errorf("%d writes wait, not %d", n, want)
	}
}

// open opens a device, and tells a fault if its records aren't just these.
func open(t *testing.T, d *block.Device, want ...[]byte) *wal.Log {
	t.Helper()
	l, found, e := wal.Open(d)
	if e != api.OK || l == nil {
		t.Fatalf("Open: %d", e)
	}
	same(t, found, want)
	measures(t, l, d, want)
	return l
}

func same(t *testing.T, found, want [][]byte) {
	t.Helper()
	if len(found) != len(want) {
		t.Fatalf("%d records, not %d", len(found), len(want))
	}
	for i := range want {
		if !bytes.Equal(found[i], want[i]) {
			t.Fatalf("record %d: %x, not %x", i, found[i], want[i])
		}
	}
}

// measures tells a fault if Size and Room aren't those of a log of these records.
func measures(t *testing.T, l *wal.Log, d *block.Device, records [][]byte) {
	t.Helper()
	size := len(framed(records...))
	if l.Size() != size || l.Room() != d.Size()*whole-size {
		t.Fatalf("Size %d, Room %d, not %d, %d", l.Size(), l.Room(), size, d.Size()*whole-size)
	}
}

// add appends records that may be appended.
func add(t *testing.T, l *wal.Log, records ...[]byte) {
	t.Helper()
	for _, p := range records {
		if e := l.Append(p); e != api.OK {
			t.Fatalf("Append of %d bytes: %d", len(p), e)
		}
	}
}

func TestMaxRecord(t *testing.T) {
	if wal.MaxRecord != 4000 {
		t.Error(wal.MaxRecord)
	}
}

func TestFrameByItsBytes(t *testing.T) {
	for _, c := range []struct{ p, want []byte }{
		{[]byte("ab"), []byte{0, 2, 0x14, 0xcb, 0x47, 0x2e, 'a', 'b'}},
		{[]byte{0}, []byte{0, 1, 0x73, 0xc6, 0x3b, 0x0d, 0}},
		{[]byte("123456789"), []byte("\x00\x09\x7f\xbe\xdc\x73123456789")},
	} {
		if got := wal.Frame(c.p); !bytes.Equal(got, c.want) {
			t.Errorf("Frame(%x): %x, not %x", c.p, got, c.want)
		}
	}
}

func TestFrameOfEachLength(t *testing.T) {
	for n := 1; n <= wal.MaxRecord; n++ {
		p := record(n, n)
		if got := wal.Frame(p); !bytes.Equal(got, framed(p)) {
			t.Fatalf("%d bytes: begins with %x, not %x", n, got[:head], framed(p)[:head])
		}
	}
}

func TestFrameOfNoughts(t *testing.T) {
	for _, n := range []int{1, 2, 26, 255, 256, 257, wal.MaxRecord} {
		if p := make([]byte, n); !bytes.Equal(wal.Frame(p), framed(p)) {
			t.Errorf("%d noughts", n)
		}
	}
}

func TestNilLog(t *testing.T) {
	var l *wal.Log
	for range 2 {
		for _, p := range [][]byte{nil, {}, {0}, []byte("ab"), make([]byte, wal.MaxRecord), make([]byte, wal.MaxRecord+1), make([]byte, 1<<17)} {
			if e := l.Append(p); e != api.ErrNone {
				t.Errorf("Append of %d bytes: %d", len(p), e)
			}
		}
		if l.Size() != 0 || l.Room() != 0 {
			t.Error(l.Size(), l.Room())
		}
		l.Sync()
	}
}

func TestNoDevice(t *testing.T) {
	if l, found, e := wal.Open(nil); l != nil || len(found) != 0 || e != api.ErrNone {
		t.Error(l, found, e)
	}
}
