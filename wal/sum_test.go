package wal_test

import (
	"bytes"
	"testing"

	"carrier/block"
	"carrier/crc"
	"carrier/wal"
)

// summed is a frame with crc.Of's answer of its two first bytes and its record.
func summed(p []byte) []byte {
	length := []byte{byte(len(p) / 256), byte(len(p) % 256)}
	sum := crc.Of(append(bytes.Clone(length), p...))
	f := append(length, byte(sum>>24), byte(sum>>16), byte(sum>>8), byte(sum))
	return append(f, p...)
}

// summedRecords are of each length at which a frame's first two bytes turn, of mixed bytes, of noughts, of ones.
func summedRecords() [][]byte {
	var all [][]byte
	for i, n := range []int{1, 2, 254, 255, 256, 257, 511, 512, wal.MaxRecord - 1, wal.MaxRecord} {
		all = append(all, record(n, i), make([]byte, n), bytes.Repeat([]byte{0xff}, n))
	}
	return all
}

func TestSumInAFrameIsWhatOfAnswers(t *testing.T) {
	for _, p := range summedRecords() {
		if got := wal.Frame(p); !bytes.Equal(got, summed(p)) {
			t.Errorf("%d bytes: begins with %x, not %x", len(p), got[:head], summed(p)[:head])
		}
	}
}

func TestSumOnADeviceIsWhatOfAnswers(t *testing.T) {
	for _, p := range summedRecords() {
		d := block.New(127)
		add(t, open(t, d), p)
		holds(t, d, summed(p))
		open(t, laid(t, 127, summed(p)), p)
	}
}

// A frame of another sum than Of answers is none.
func TestFrameOfAnotherSumIsNotFound(t *testing.T) {
	for _, p := range summedRecords() {
		for bit := range 32 {
			f := summed(p)
			f[2+bit/8] ^= 1 << (bit % 8)
			open(t, laid(t, 127, f))
		}
	}
}

// A log's sums hang on its bytes alone: they don't go by the count of calls, which goes on telling those of Of and More.
func TestLogsDoNotCount(t *testing.T) {
	was := crc.Calls()
	grown := func(want uint64, name string) {
		t.Helper()
		if n := crc.Calls() - was; n != want {
			t.Errorf("%s: %d calls, not %d", name, n, want)
		}
	}
	d := block.New(8)
	l := open(t, d)
	add(t, l, record(20, 1), record(50, 2))
	wal.Frame(record(255, 3))
	open(t, d, record(20, 1), record(50, 2))
	grown(0, "a log")
	crc.Of(record(20, 1))
	grown(1, "Of")
	crc.More(7, record(20, 1))
	grown(2, "More")
	crc.Of(wal.Frame(record(1, 1)))
	grown(3, "Of a frame")
}
