package event_test

import (
	"bytes"
	"math"
	"testing"

	"carrier/api"
	"carrier/event"
)

// An event's texts are its own: the bytes that they were read from may be written over.
func TestBytesMayBeWrittenOver(t *testing.T) {
	for _, e := range []api.Event{plain(), greatest()} {
		p := event.Encode(e)
		x, err := event.Decode(p)
		for i := range p {
			p[i] = 'z'
		}
		if x != e || err != api.OK {
			t.Errorf("%#v %d", x, err)
		}
	}
}

// Neither the bytes themselves are written into, nor what their list has room for behind them.
func TestBytesAreNotWrittenInto(t *testing.T) {
	whole := with(laid(plain()), bytes.Repeat([]byte{0x85}, 40))
	p := bytes.Clone(whole)
	for end := range len(p) + 1 {
		event.Decode(p[:end])
		if !bytes.Equal(p, whole) {
			t.Fatalf("%d: %x", end, p)
		}
	}
	for start := range p {
		event.Decode(p[start:])
		if !bytes.Equal(p, whole) {
			t.Fatalf("from %d: %x", start, p)
		}
	}
}

func TestEncodedBytesAreTheCallers(t *testing.T) {
	e := plain()
	p, q := event.Encode(e), event.Encode(e)
	clear(p)
	if !bytes.Equal(q, laid(e)) || !bytes.Equal(event.Encode(e), laid(e)) {
		t.Errorf("written over: %x", q)
	}
	longer, other := append(q, 1), append(event.Encode(e), 2)
	if longer[len(q)] != 1 || other[len(q)] != 2 {
		t.Error("room behind is shared")
	}
	event.Encode(greatest())
	if !bytes.Equal(q, laid(e)) {
		t.Errorf("written over by another one's: %x", q)
	}
}

// Nothing is kept from call to call, whatever the ones ahead told.
func TestNothingIsKept(t *testing.T) {
	p, bad := laid(plain()), []byte("\x00\x80")
	for range 3 {
		refused(t, bad, api.ErrForm)
		refused(t, p[:len(p)-1], api.ErrShort)
		both(t, plain(), p)
		both(t, greatest(), laid(greatest()))
		refused(t, with(p, p), api.ErrForm)
		both(t, least(), laid(least()))
	}
}

// anyEvents are events of all kinds, most of them not Right.
func anyEvents() []api.Event {
	var l []api.Event
	texts := []string{"", "a", long(40), long(41), long(1 << 16), "\xff\x00"}
	for i, n := range []int64{deep, deep + 1, -1, 0, 1, 2, far - 1, far} {
		for j, tries := range []int{math.MinInt, -1, 0, 1, 1<<31 - 1, 1 << 31, math.MaxInt} {
			for k, table := range []int{math.MinInt, -1, 0, 3, 4, 1 << 32, math.MaxInt} {
				for kind := range 256 {
					e := api.Event{ID: n, Tx: 1, Owner: texts[(i+j+k)%6], Tries: tries, Table: table, Kind: byte(kind)}
					e.Row = api.Row{Key: n, Text: texts[(i+2*j+kind)%6]}
					if kind%2 == 1 {
						e.ID, e.Tx = e.Tx, e.ID
					}
					l = append(l, e)
				}
			}
		}
	}
	return l
}

// Of any event the calls end; and bytes has just one that is Right.
func TestAnyEvent(t *testing.T) {
	for _, e := range anyEvents() {
		p := event.Encode(e)
		if (len(p) > 0) != event.Right(e) {
			t.Fatalf("%#v: %x", e, p)
		}
		if len(p) > 0 {
			both(t, e, laid(e))
		}
		for _, owner := range []string{"", "a", long(41), long(1 << 16), e.Owner} {
			if event.Due(e, owner) != (e.Owner == "" || e.Owner == owner) {
				t.Fatalf("%#v, %q", e, owner)
			}
		}
	}
}

// Of any bytes Decode ends, and tells what must be.
func TestAnyBytes(t *testing.T) {
	for _, b := range []byte{0x00, 0x01, 0x05, 0x28, 0x29, 0x7f, 0x80, 0xff} {
		for n := range 300 {
			asRead(t, bytes.Repeat([]byte{b}, n))
			asRead(t, with([]byte{1, 1, 0, 0, 0, 1}, bytes.Repeat([]byte{b}, n)))
		}
		asRead(t, bytes.Repeat([]byte{b}, 1<<20))
	}
}
