package wal_test

import (
	"bytes"
	"testing"

	"carrier/api"
	"carrier/block"
	"carrier/wal"
)

func TestFrameIsTheCallers(t *testing.T) {
	p := record(30, 1)
	was := bytes.Clone(p)
	f, again := wal.Frame(p), wal.Frame(p)
	clear(f)
	if !bytes.Equal(p, was) || !bytes.Equal(again, framed(was)) {
		t.Error("an answer is shared")
	}
	clear(p)
	if !bytes.Equal(again, framed(was)) {
		t.Error("an answer shares what was handed in")
	}
}

func TestWhatIsHandedInStays(t *testing.T) {
	long := record(200, 1)
	was := bytes.Clone(long)
	d := block.New(20)
	l := open(t, d)
	for _, n := range []int{0, 1, 26, 50, 150} {
		wal.Frame(long[:n]) // there is room behind
		l.Append(long[:n])
		l.Sync()
		wal.Open(d)
	}
	if !bytes.Equal(long, was) {
		t.Error("written into")
	}
}

func TestAppendHasItsOwnBytes(t *testing.T) {
	p := record(50, 1)
	d := block.New(4)
	l := open(t, d)
	add(t, l, p)
	clear(p)
	holds(t, d, framed(record(50, 1)))
	copy(p, record(50, 2))
	add(t, l, p[:5])
	clear(p)
	holds(t, d, framed(record(50, 1), record(50, 2)[:5]))
	l.Sync()
	safe(t, d, framed(record(50, 1), record(50, 2)[:5]))
}

func TestRecordsAreTheCallers(t *testing.T) {
	all := [][]byte{record(5, 1), record(40, 2), record(26, 3)}
	d := laid(t, 5, framed(all...))
	l, found, _ := wal.Open(d)
	_, again, _ := wal.Open(d)
	for _, p := range found {
		clear(p)
	}
	same(t, again, all)
	holds(t, d, framed(all...))
	for i, p := range again { // nor does what is put behind one go into the next one
		again[i] = append(p, record(20, 9)...)
	}
	for i, p := range again {
		if !bytes.Equal(p[:len(all[i])], all[i]) {
			t.Errorf("record %d shares its bytes", i)
		}
	}
	clear(found)
	add(t, l, record(3, 4))
	open(t, d, append(all, record(3, 4))...)
}

// What was found is there to stay, whatever is done to the device behind it.
func TestRecordsStayAsTheyWere(t *testing.T) {
	all := [][]byte{record(5, 1), record(40, 2)}
	d := laid(t, 5, framed(all...))
	l, found, _ := wal.Open(d)
	add(t, l, record(50, 3))
	for i := range d.Size() {
		d.Write(i, make([]byte, whole))
	}
	d.Sync()
	same(t, found, all)
}

func TestRecordsMayBeAppended(t *testing.T) {
	d := laid(t, 5, framed(record(40, 1)))
	l, found, _ := wal.Open(d)
	if l.Append(found[0]) != api.OK {
		t.Fatal("refused")
	}
	clear(found[0])
	open(t, d, record(40, 1), record(40, 1))
}

func TestLogsShareNothing(t *testing.T) {
	a, b := block.New(3), block.New(2)
	la, lb := open(t, a), open(t, b)
	add(t, la, record(30, 1))
	measures(t, lb, b, nil)
	holds(t, b, nil)
	add(t, lb, record(2, 2))
	lb.Sync()
	waits(t, a, 2)
	waits(t, b, 0)
	measures(t, la, a, [][]byte{record(30, 1)})
	measures(t, lb, b, [][]byte{record(2, 2)})
	holds(t, a, framed(record(30, 1)))
	holds(t, b, framed(record(2, 2)))
}
