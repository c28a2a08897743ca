package entry_test

import (
	"bytes"
	"math"
	"reflect"
	"slices"
	"strings"
	"testing"

	"carrier/api"
	"carrier/entry"
)

// overwrite writes over all elements of an entry's lists, and of what they have room for.
func overwrite(e entry.Entry) {
	ops, events, open := e.Ops[:cap(e.Ops)], e.Events[:cap(e.Events)], e.Tick.Snap.Open[:cap(e.Tick.Snap.Open)]
	for i, o := range ops {
		ops[i] = op(9, !o.Gone, o.Row.Key+1, "z")
	}
	for i := range events {
		events[i] = placed(9, api.Event{ID: 9, Tx: 9, Kind: api.Delete})
	}
	for i := range open {
		open[i] = 9
	}
}

// Bytes that were answered stay, whatever becomes of the entry's lists; and an entry that is encoded again is another one.
func TestEncodedListsMayBeWrittenOver(t *testing.T) {
	for _, kind := range kinds() {
		for _, base := range bases(kind) {
			e := copied(base)
			p := entry.Encode(e)
			overwrite(e)
			if !bytes.Equal(p, laid(base)) {
				t.Errorf("%x, not %x", p, laid(base))
			}
			both(t, e, laid(e))
		}
	}
}

func TestEncodedBytesAreTheCallers(t *testing.T) {
	for _, kind := range append(kinds(), 0, 12, 255) {
		e := full(kind)
		want := entry.Encode(e)
		p, q := entry.Encode(e), entry.Encode(e)
		for i := range p[:cap(p)] {
			p[:cap(p)][i] = 'z'
		}
		if !bytes.Equal(q, want) || !bytes.Equal(entry.Encode(e), want) {
			t.Errorf("%d: written over: %x", kind, q)
		}
		longer, other := append(q, 1), append(entry.Encode(e), 2)
		if longer[len(q)] != 1 || other[len(want)] != 2 {
			t.Errorf("%d: room behind is shared", kind)
		}
		entry.Encode(greatest(kind))
		if !bytes.Equal(q, want) {
			t.Errorf("%d: written over by another one's: %x", kind, q)
		}
	}
}

// An entry's texts and lists are its own: the bytes that they were read from may be written over.
func TestBytesMayBeWrittenOver(t *testing.T) {
	for _, kind := range kinds() {
		for _, e := range bases(kind) {
			p := laid(e)
			x, err := entry.Decode(p)
			for i := range p {
				p[i] = 'z'
			}
			if !reflect.DeepEqual(bare(x), bare(kept(e))) || err != api.OK {
				t.Errorf("%+v %d", x, err)
			}
		}
	}
}

// Neither the bytes themselves are written into, nor what their list has room for behind them.
func TestBytesAreNotWrittenInto(t *testing.T) {
	for _, kind := range kinds() {
		whole := with(laid(full(kind)), bytes.Repeat([]byte{0x85}, 40))
		p := bytes.Clone(whole)
		for end := range len(p) + 1 {
			entry.Decode(p[:end])
			if !bytes.Equal(p, whole) {
				t.Fatalf("%d: %x", end, p)
			}
		}
		for start := range p {
			entry.Decode(p[start:])
			if !bytes.Equal(p, whole) {
				t.Fatalf("from %d: %x", start, p)
			}
		}
	}
}

// The lists of an entry that was read are the caller's: no other one's change with them, nor grow into them.
func TestDecodedListsAreTheCallers(t *testing.T) {
	for _, kind := range kinds() {
		for _, e := range bases(kind) {
			p := laid(e)
			x, _ := entry.Decode(p)
			y, _ := entry.Decode(p)
			overwrite(x)
			z, err := entry.Decode(p)
			if !reflect.DeepEqual(bare(y), bare(kept(e))) || !reflect.DeepEqual(bare(z), bare(kept(e))) || err != api.OK {
				t.Errorf("%+v, %+v %d, not %+v", y, z, err, kept(e))
			}
			x.Ops, x.Events, x.Tick.Snap.Open = append(x.Ops, entry.Op{}), append(x.Events, entry.Placed{}), append(x.Tick.Snap.Open, 0)
			overwrite(x)
			if !bytes.Equal(p, laid(e)) || !bytes.Equal(entry.Encode(y), p) {
				t.Errorf("%x: written into", p)
			}
		}
	}
}

// handed is an entry whose lists have elements behind them, which aren't its.
func handed(kind byte) entry.Entry {
	e := full(kind)
	e.Ops = append(e.Ops, op(8, true, 8, "behind"))[:len(e.Ops)]
	e.Events = append(e.Events, placed(8, plainEvent()))[:len(e.Events)]
	e.Tick.Snap.Open = append(e.Tick.Snap.Open, 8)[:len(e.Tick.Snap.Open)]
	return e
}

// room are an entry's lists with all that they have room for.
func room(e entry.Entry) entry.Entry {
	e.Ops = slices.Clone(e.Ops[:cap(e.Ops)])
	e.Events = slices.Clone(e.Events[:cap(e.Events)])
	e.Tick.Snap.Open = slices.Clone(e.Tick.Snap.Open[:cap(e.Tick.Snap.Open)])
	return e
}

// Neither Encode nor Same writes into the lists, or into what is behind them; and that isn't looked at.
func TestListsAreNotWrittenInto(t *testing.T) {
	for kind := range 256 {
		a, b := handed(byte(kind)), full(byte(kind))
		was := room(a)
		entry.Encode(a)
		alike(t, "what is behind", a, b, true)
		b.Ops = b.Ops[:1]
		alike(t, "an Op less", a, b, false)
		if !reflect.DeepEqual(room(a), was) {
			t.Errorf("%+v, not %+v", room(a), was)
		}
		if len(has(byte(kind))) > 0 {
			both(t, a, laid(full(byte(kind))))
		}
	}
}

// What Same was handed isn't kept: another answer is given of other lists.
func TestSameKeepsNothing(t *testing.T) {
	for _, kind := range kinds() {
		for range 3 {
			a, b := full(kind), full(kind)
			alike(t, "at first", a, b, true)
			overwrite(a)
			alike(t, "written over", a, b, false)
			overwrite(b)
			b.Ops = slices.Clone(a.Ops)
			alike(t, "both", a, b, true)
		}
	}
}

// Nothing is kept from call to call, whatever the ones ahead told.
func TestNothingIsKept(t *testing.T) {
	for range 3 {
		for _, kind := range kinds() {
			p := laid(full(kind))
			refused(t, p[:len(p)-1], api.ErrShort)
			both(t, full(kind), p)
			refused(t, with(p, p), api.ErrForm)
			both(t, edge(kind), laid(edge(kind)))
			none(t, entry.Entry{Kind: entry.Rotate, N: -1})
			both(t, least(kind), laid(least(kind)))
			refused(t, []byte{0}, api.ErrForm)
		}
	}
}

// anyEntries are entries with all numbers, texts, lists on some edge, many of them such as may not be encoded.
func anyEntries(kind byte) []entry.Entry {
	var l []entry.Entry
	texts := []string{"", "a", long(40), long(41), long(1 << 16), "\xff\x00"}
	ints := []int{0, 1, -1, 255, 256, 1 << 32, math.MinInt, math.MaxInt}
	for i, n := range []int64{deep, deep + 1, -1, 0, 1, 2, far - 1, far} {
		for j, length := range []int{0, 1, 2, 255, 256, 300} {
			e := entry.Entry{Kind: kind, Tx: n, Next: n, NextID: n, Name: texts[(i+j)%6], N: n, At: n}
			e.Tick = api.Tick{N: n, Snap: api.Snapshot{Max: n, Open: slices.Repeat([]int64{n}, length)}, At: n}
			e.Ops = slices.Repeat([]entry.Op{op(ints[(i+j)%8], j%2 == 0, n, texts[j])}, length)
			e.Events = slices.Repeat([]entry.Placed{placed(ints[(i+j)%8], append(wrongEvents(), rightEvents()...)[i+j])}, length)
			l = append(l, e)
		}
	}
	return l
}

// Of any entry the calls end; and what bytes it has are read as what they are.
func TestAnyEntry(t *testing.T) {
	for kind := range 256 {
		for _, e := range anyEntries(byte(kind)) {
			p := entry.Encode(e)
			if len(p) > 0 {
				asRead(t, p)
			}
			if !entry.Same(e, copied(e)) || entry.Same(e, entry.Entry{}) != reflect.DeepEqual(bare(e), entry.Entry{}) {
				t.Fatalf("%d: %+v", kind, e)
			}
		}
		for _, one := range turns() {
			e := turned(full(byte(kind)), one)
			asRead(t, entry.Encode(e))
		}
	}
}

// Of any bytes Decode ends, and tells what must be.
func TestAnyBytes(t *testing.T) {
	for kind := range 256 {
		for _, b := range []byte{0x00, 0x01, 0x05, 0x28, 0x29, 0x7f, 0x80, 0xff} {
			for n := range 100 {
				asRead(t, append([]byte{byte(kind)}, bytes.Repeat([]byte{b}, n)...))
			}
		}
	}
	for _, ahead := range []string{"", "\x01\x01\x01\x01", "\x01\x01\x01\x01\x00", "\x08\x01\x01\x01", "\x02\x01\x01", "\x0b\x01", "\x03", "\x07"} {
		for _, b := range []byte{0x00, 0x01, 0x28, 0x29, 0x7f, 0x80, 0xff} {
			asRead(t, []byte(ahead+strings.Repeat(string([]byte{b}), 1<<20)))
		}
	}
}
