package entry_test

import (
	"bytes"
	"math/big"
	"reflect"
	"slices"
	"strings"
	"testing"

	"carrier/api"
	"carrier/entry"
	"carrier/event"
)

// both tells a fault if an entry doesn't have these bytes, or they aren't its: all that its Kind has, and no more.
func both(t *testing.T, e entry.Entry, want []byte) {
	t.Helper()
	if p := entry.Encode(e); !bytes.Equal(p, want) {
		t.Errorf("%+v: %x, not %x", e, p, want)
	}
	x, err := entry.Decode(want)
	if !reflect.DeepEqual(bare(x), bare(kept(e))) || err != api.OK {
		t.Errorf("%x: %+v %d, not %+v", want, x, err, kept(e))
	}
}

// none tells a fault if an entry has bytes.
func none(t *testing.T, e entry.Entry) {
	t.Helper()
	if p := entry.Encode(e); len(p) != 0 {
		t.Errorf("%+v: %x", e, p)
	}
}

// The chapter's example.
func TestExample(t *testing.T) {
	both(t, entry.Entry{Kind: entry.Rotate, N: 2}, []byte{0x09, 0x02})
}

func TestKindsByNumber(t *testing.T) {
	for i, kind := range []byte{entry.Commit, entry.Tick, entry.Register, entry.Unregister, entry.Open, entry.Finish, entry.Retry, entry.Maint, entry.Rotate, entry.Trim, entry.Applied} {
		if int(kind) != i+1 {
			t.Error(kind, i+1)
		}
	}
	if len(kinds()) != 11 || len(otherKinds()) != 245 {
		t.Error(kinds(), otherKinds())
	}
}

// Of each Kind all fields are set, each to other bytes: so each part has but one place.
func TestPartsOfEachKind(t *testing.T) {
	first, second := string(event.Encode(plainEvent())), "\x01\x01\x00\x00\x00\x01\x00\x00"
	if first != "\xac\x02\x02\x03own\x07\x02\x02\x01\x02xy" {
		t.Fatalf("%x", first)
	}
	ops := "\x02" + "\x01\x01\x0d\x00" + "\x02\x00\xd8\x04\x04text"
	events := "\x02" + "\x02\x0e" + first + "\x01\x08" + second
	for kind, want := range map[byte]string{
		entry.Commit:     "\x01" + "\x15\xc2\x02\x17" + ops + events,
		entry.Tick:       "\x02" + "\x18\xc5\x02" + "\x03\x1a\x7f\xe4\x01" + "\x39",
		entry.Register:   "\x03" + "\x04name" + "\xae\x03",
		entry.Unregister: "\x04" + "\x04name" + "\xae\x03",
		entry.Open:       "\x05" + "\x04name" + "\xae\x03",
		entry.Finish:     "\x06" + "\x04name" + "\xae\x03",
		entry.Retry:      "\x07" + "\x04name" + "\xae\x03" + "\x3d",
		entry.Maint:      "\x08" + "\x15\xc2\x02\x17" + events + "\x3d",
		entry.Rotate:     "\x09" + "\xae\x03",
		entry.Trim:       "\x0a" + "\xae\x03",
		entry.Applied:    "\x0b" + "\xae\x03" + ops,
	} {
		both(t, full(kind), []byte(want))
	}
}

// Of each Kind the least and the greatest that it may have.
func TestLeastOfEachKind(t *testing.T) {
	lowest := "\xff\xff\xff\xff\xff\xff\xff\xff\xff\x01"
	for kind, want := range map[byte]string{
		entry.Commit:     "\x01\x00\x00\x00\x00\x00",
		entry.Tick:       "\x02\x00\x00\x00" + lowest,
		entry.Register:   "\x03\x00\x00",
		entry.Unregister: "\x04\x00\x00",
		entry.Open:       "\x05\x00\x00",
		entry.Finish:     "\x06\x00\x00",
		entry.Retry:      "\x07\x00\x00" + lowest,
		entry.Maint:      "\x08\x00\x00\x00\x00" + lowest,
		entry.Rotate:     "\x09\x00",
		entry.Trim:       "\x0a\x00",
		entry.Applied:    "\x0b\x00\x00",
	} {
		both(t, least(kind), []byte(want))
		both(t, entry.Entry{Kind: kind}, laid(entry.Entry{Kind: kind}))
	}
}

func TestGreatestOfEachKind(t *testing.T) {
	most := strings.Repeat("\xff", 8) + "\x7f"              // 2^63 - 1
	high := "\xfe" + strings.Repeat("\xff", 8) + "\x01"     // the greatest key, or time
	name := "\x28" + strings.Repeat("\xff", 40)             // of MaxText bytes
	ops := strings.Repeat("\xff\x01"+"\x01"+high+name, 255) // each of table 255
	open := strings.Repeat(most, 255)                       // each the greatest number
	x := string(event.Encode(greatEvent()))                 // 117 bytes
	events := strings.Repeat("\xff\x01"+"\x75"+x, 255)      // each in spool 255
	all := "\xff\x01"                                       // 255 of something
	commit := "\x01" + most + most + most + all + ops + all + events
	for kind, want := range map[byte]string{
		entry.Commit:     commit,
		entry.Tick:       "\x02" + most + most + all + open + high,
		entry.Register:   "\x03" + name + most,
		entry.Unregister: "\x04" + name + most,
		entry.Open:       "\x05" + name + most,
		entry.Finish:     "\x06" + name + most,
		entry.Retry:      "\x07" + name + most + high,
		entry.Maint:      "\x08" + most + most + most + all + events + high,
		entry.Rotate:     "\x09" + most,
		entry.Trim:       "\x0a" + most,
		entry.Applied:    "\x0b" + most + all + ops,
	} {
		both(t, greatest(kind), []byte(want))
	}
}

// Gone is 1 or 0, and stands behind the table.
func TestGone(t *testing.T) {
	for gone, want := range map[bool]string{false: "\x0b\x05\x01\x02\x00\x01\x01x", true: "\x0b\x05\x01\x02\x01\x01\x01x"} {
		both(t, entry.Entry{Kind: entry.Applied, N: 5, Ops: []entry.Op{op(2, gone, -1, "x")}}, []byte(want))
	}
}

// Each list in the order in which it stands, whatever is in it.
func TestOrderOfLists(t *testing.T) {
	for _, kind := range kinds() {
		e := full(kind)
		e.Ops = []entry.Op{op(3, false, 9, "b"), op(1, true, 9, "b"), op(3, false, 9, "b"), op(2, false, -9, "a")}
		e.Events = []entry.Placed{placed(2, greatEvent()), placed(0, plainEvent()), placed(2, greatEvent())}
		e.Tick.Snap = api.Snapshot{Max: 2, Open: []int64{9, 3, 9, 0, 5}} // not Right: that isn't asked
		both(t, e, laid(e))
		slices.Reverse(e.Ops)
		slices.Reverse(e.Events)
		slices.Reverse(e.Tick.Snap.Open)
		both(t, e, laid(e))
	}
}

// Of other Kinds the Kind alone, whatever the entry has.
func TestOtherKinds(t *testing.T) {
	for _, kind := range otherKinds() {
		for _, e := range append(bases(kind), entry.Entry{Kind: kind}) {
			if p := entry.Encode(e); !bytes.Equal(p, []byte{kind}) {
				t.Errorf("%d: %x", kind, p)
			}
		}
		for _, one := range turns() {
			if p := entry.Encode(turned(full(kind), one)); !bytes.Equal(p, []byte{kind}) {
				t.Errorf("%d, %s: %x", kind, one.part, p)
			}
		}
	}
}

// Each part on each of its edges. What may not be has no bytes; what the Kind doesn't have doesn't count.
func TestEachPart(t *testing.T) {
	for _, kind := range kinds() {
		for _, base := range bases(kind) {
			for _, one := range turns() {
				e := turned(base, one)
				if mayBeLaid(kind, one) {
					both(t, e, laid(e))
				} else {
					none(t, e)
				}
			}
		}
	}
}

// Each two parts, on each of their edges: one that may be makes none that may not be.
func TestEachTwoParts(t *testing.T) {
	var l []turn
	count := map[string]int{}
	for _, one := range turns() { // of a few of the values: of all that would be too many pairs
		if count[one.part]++; !one.right || count[one.part]%4 == 1 {
			l = append(l, one)
		}
	}
	for _, kind := range kinds() {
		for i, one := range l {
			for j, other := range l {
				if one.part == other.part || (i+j)%3 > 0 && mayBeLaid(kind, one, other) {
					continue
				}
				e := turned(full(kind), one, other)
				if mayBeLaid(kind, one, other) {
					both(t, e, laid(e))
				} else {
					none(t, e)
				}
			}
		}
	}
}

// A table, or a spool, of 256 and more isn't below 0: it is laid, but not read.
func TestFarPlaces(t *testing.T) {
	for _, n := range farPlaces {
		for _, e := range []entry.Entry{
			{Kind: entry.Commit, Ops: ops(op(n, true, 5, "x"))},
			{Kind: entry.Commit, Events: events(placed(n, plainEvent()))},
			{Kind: entry.Maint, Events: events(placed(n, plainEvent()))},
			{Kind: entry.Applied, Ops: ops(op(n, true, 5, "x"))},
		} {
			if p := entry.Encode(e); !bytes.Equal(p, laid(e)) {
				t.Errorf("%d: %x, not %x", n, p, laid(e))
			}
			refused(t, laid(e), api.ErrForm)
		}
	}
}

// One of many that may not be is enough, wherever it stands.
func TestOneOfManyIsWrong(t *testing.T) {
	for _, i := range []int{0, 1, 100, 253, 254} {
		for _, kind := range []byte{entry.Commit, entry.Applied} {
			for _, o := range []entry.Op{op(-1, false, 0, ""), op(0, false, 0, long(41))} {
				e := greatest(kind)
				e.Ops[i] = o
				none(t, e)
			}
		}
		for _, kind := range []byte{entry.Commit, entry.Maint} {
			for _, x := range append(wrongEvents(), plainEvent()) {
				e := greatest(kind)
				e.Events[i].Event = x
				if x == plainEvent() {
					e.Events[i].Spool = -1
				}
				none(t, e)
			}
		}
		e := greatest(entry.Tick)
		e.Tick.Snap.Open[i] = -1
		none(t, e)
	}
}

// Far too many, of which a Kind's own are none, and another one's don't count.
func TestFarTooMany(t *testing.T) {
	for _, kind := range kinds() {
		for _, one := range []turn{
			{"Ops", false, func(e *entry.Entry) { e.Ops = make([]entry.Op, 1<<16) }},
			{"Events", false, func(e *entry.Entry) { e.Events = slices.Repeat(e.Events, 1<<15) }},
			{"Tick.Open", false, func(e *entry.Entry) { e.Tick.Snap.Open = make([]int64, 1<<16) }},
		} {
			if e := turned(full(kind), one); mayBeLaid(kind, one) {
				both(t, e, laid(full(kind)))
			} else {
				none(t, e)
			}
		}
	}
}

func TestLengthsOfLists(t *testing.T) {
	for n := range 256 {
		for _, kind := range kinds() {
			e := full(kind)
			e.Ops = slices.Repeat([]entry.Op{op(n, n%2 == 0, int64(n), "t")}, n)
			e.Events = slices.Repeat([]entry.Placed{placed(n, plainEvent())}, n)
			e.Tick.Snap.Open = slices.Repeat([]int64{int64(n)}, n)
			both(t, e, laid(e))
		}
	}
}

func TestLengthsOfTexts(t *testing.T) {
	for n := range 600 {
		for _, kind := range kinds() {
			e := full(kind)
			e.Name = long(n)
			e.Ops = ops(op(1, false, 1, long(n)))
			if n <= api.MaxText || kind == entry.Maint || kind == entry.Tick || kind == entry.Rotate || kind == entry.Trim {
				both(t, e, laid(e))
			} else {
				none(t, e)
			}
		}
	}
}

func TestTextsOfAnyBytes(t *testing.T) {
	for b := range 256 {
		for _, kind := range kinds() {
			e := full(kind)
			e.Name = string(bytes.Repeat([]byte{byte(b)}, 40))
			e.Ops[0].Row.Text = e.Name[:b%41]
			x := plainEvent()
			x.Owner, x.Row.Text = e.Name[:b%40], e.Name
			e.Events[1].Event = x
			both(t, e, laid(e))
		}
	}
}

// Keys and times of all lengths, on both sides of 0; numbers of all lengths.
func TestNumbersOfAllLengths(t *testing.T) {
	for places := range 64 {
		for _, beside := range []int64{-1, 0, 1} {
			n := int64(1)<<places + beside
			for _, k := range []int64{n, -n} {
				for _, kind := range kinds() {
					e := full(kind)
					e.Ops[0].Row.Key, e.Tick.At, e.At = k, k, k
					if m := k & far; m >= 0 {
						e.Tx, e.Next, e.NextID, e.N, e.Tick.N, e.Tick.Snap.Max, e.Tick.Snap.Open[1] = m, m, m, m, m, m, m
					}
					both(t, e, laid(e))
				}
			}
		}
	}
}

// Entries of which what their Kinds have isn't alike have unlike bytes.
func TestUnlikeEntriesHaveUnlikeBytes(t *testing.T) {
	of := map[string]entry.Entry{}
	for _, kind := range kinds() {
		for _, one := range turns() {
			if !mayBeLaid(kind, one) {
				continue
			}
			e := turned(full(kind), one)
			p := string(entry.Encode(e))
			if y, there := of[p]; there && !reflect.DeepEqual(bare(kept(y)), bare(kept(e))) {
				t.Errorf("%x: %+v, %+v", p, e, y)
			}
			of[p] = e
		}
	}
}

// The numbers of any size that help_test.go goes by are layer 2's.
func TestHelp(t *testing.T) {
	for n, want := range map[int64]string{0: "\x00", 127: "\x7f", 128: "\x80\x01", 300: "\xac\x02", far: strings.Repeat("\xff", 8) + "\x7f"} {
		if string(natural(n)) != want || string(num(big.NewInt(n))) != want {
			t.Errorf("%d: %x", n, natural(n))
		}
	}
	for n, want := range map[int64]string{0: "\x00", -1: "\x01", 1: "\x02", deep: strings.Repeat("\xff", 9) + "\x01", far: "\xfe" + strings.Repeat("\xff", 8) + "\x01"} {
		if string(whole(n)) != want {
			t.Errorf("%d: %x", n, whole(n))
		}
	}
}
