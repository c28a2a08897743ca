package calls

import (
	"math"
	"reflect"
	"slices"
	"testing"

	"carrier/api"
	"carrier/entry"
	"carrier/heap"
)

// record is an entry: none, some of the Kinds that there are, with as many of all as may be, and with more, and of a Kind that there isn't.
func record(kind int) entry.Entry {
	switch kind {
	case 1:
		return listed(entry.Commit, 2)
	case 2:
		return listed(entry.Tick, 255)
	case 3:
		return listed(entry.Maint, 255)
	case 4:
		return listed(entry.Applied, 256)
	case 5:
		e := listed(math.MaxUint8, 1)
		e.Tx, e.Next, e.NextID, e.N, e.At = math.MinInt64, -1, math.MinInt64, -1, math.MinInt64
		return e
	}
	return entry.Entry{}
}

// listed is an entry of that Kind with all fields set, and with so many in each list.
func listed(kind byte, length int) entry.Entry {
	most := odd(reflect.TypeFor[string](), 3).String()
	o := entry.Op{Table: 255, Op: heap.Op{Gone: true, Row: api.Row{Key: math.MinInt64, Text: most}}}
	return entry.Entry{
		Kind: kind, Tx: 1, Next: 41, NextID: math.MaxInt64, Name: most, N: math.MaxInt64, At: -1,
		Ops:    slices.Repeat([]entry.Op{o}, length),
		Events: slices.Repeat([]entry.Placed{{Spool: 2, Event: change(4)}}, length),
		Tick:   api.Tick{N: 1, Snap: api.Snapshot{Max: math.MaxInt64, Open: slices.Repeat([]int64{41}, length)}, At: math.MinInt64},
	}
}

// Bytes that begin as those entries' do are cut anywhere, go on, or have one byte turned.
func TestNoEntrysBytesPanic(t *testing.T) {
	decode := reflect.ValueOf(entry.Decode)
	for kind := range kinds {
		p := entry.Encode(record(kind))
		for i := range min(len(p), 600) {
			for _, b := range []byte{0x00, 0x01, 0x7f, 0x80, 0xff} {
				q := append(slices.Clone(p[:i]), b)
				call(t, "entry.Decode, cut", decode, []reflect.Value{reflect.ValueOf(q)})
				call(t, "entry.Decode, turned", decode, []reflect.Value{reflect.ValueOf(append(q, p[i+1:]...))})
			}
		}
		call(t, "entry.Decode, more", decode, []reflect.Value{reflect.ValueOf(append(p, p...))})
	}
}
