package entry_test

import (
	"math"
	"math/rand"
	"reflect"
	"slices"
	"testing"

	"carrier/api"
	"carrier/entry"
)

// alike tells a fault if Same doesn't tell that of two, whichever comes first.
func alike(t *testing.T, what string, a, b entry.Entry, want bool) {
	t.Helper()
	if entry.Same(a, b) != want || entry.Same(b, a) != want {
		t.Errorf("%s: not %t: %+v, %+v", what, want, a, b)
	}
}

// change is a field that is changed, to something that is another one in this field alone.
type change struct {
	field string
	do    func(e *entry.Entry)
}

// fieldChanges are of all single fields, of full's and edge's entries.
func fieldChanges() []change {
	return []change{
		{"Kind", func(e *entry.Entry) { e.Kind ^= 128 }},
		{"Tx", func(e *entry.Entry) { e.Tx-- }},
		{"Next", func(e *entry.Entry) { e.Next-- }},
		{"NextID", func(e *entry.Entry) { e.NextID-- }},
		{"an Op's Table", func(e *entry.Entry) { e.Ops[0].Table-- }},
		{"an Op's Gone", func(e *entry.Entry) { e.Ops[0].Gone = !e.Ops[0].Gone }},
		{"an Op's Key", func(e *entry.Entry) { e.Ops[0].Row.Key-- }},
		{"an Op's Text", func(e *entry.Entry) { e.Ops[0].Row.Text += "\x00" }},
		{"the last Op's Table", func(e *entry.Entry) { e.Ops[len(e.Ops)-1].Table -= 256 }},
		{"the last Op's Gone", func(e *entry.Entry) { e.Ops[len(e.Ops)-1].Gone = !e.Ops[len(e.Ops)-1].Gone }},
		{"the last Op's Key", func(e *entry.Entry) { e.Ops[len(e.Ops)-1].Row.Key ^= deep }},
		{"the last Op's Text", func(e *entry.Entry) { e.Ops[len(e.Ops)-1].Row.Text = "tex\xff" }},
		{"an event's Spool", func(e *entry.Entry) { e.Events[0].Spool-- }},
		{"an event's ID", func(e *entry.Entry) { e.Events[0].Event.ID-- }},
		{"an event's Tx", func(e *entry.Entry) { e.Events[0].Event.Tx-- }},
		{"an event's Owner", func(e *entry.Entry) { e.Events[0].Event.Owner = "Own" }},
		{"an event's Tries", func(e *entry.Entry) { e.Events[0].Event.Tries-- }},
		{"an event's Table", func(e *entry.Entry) { e.Events[0].Event.Table-- }},
		{"an event's Kind", func(e *entry.Entry) { e.Events[0].Event.Kind-- }},
		{"an event's Key", func(e *entry.Entry) { e.Events[0].Event.Row.Key ^= 1 }},
		{"an event's Text", func(e *entry.Entry) { e.Events[0].Event.Row.Text = "xY" }},
		{"the last event's Spool", func(e *entry.Entry) { e.Events[len(e.Events)-1].Spool += 1 << 32 }},
		{"the last event's ID", func(e *entry.Entry) { e.Events[len(e.Events)-1].Event.ID ^= 1 << 32 }},
		{"the last event's Text", func(e *entry.Entry) { e.Events[len(e.Events)-1].Event.Row.Text += " " }},
		{"the Tick's N", func(e *entry.Entry) { e.Tick.N-- }},
		{"the Tick's Max", func(e *entry.Entry) { e.Tick.Snap.Max-- }},
		{"the Tick's first Open", func(e *entry.Entry) { e.Tick.Snap.Open[0]-- }},
		{"the Tick's last Open", func(e *entry.Entry) { e.Tick.Snap.Open[len(e.Tick.Snap.Open)-1] ^= 1 << 40 }},
		{"the Tick's At", func(e *entry.Entry) { e.Tick.At-- }},
		{"Name", func(e *entry.Entry) { e.Name += "\x00" }},
		{"N", func(e *entry.Entry) { e.N-- }},
		{"At", func(e *entry.Entry) { e.At-- }},
	}
}

// listChanges make a list a longer, or a shorter one.
func listChanges() []change {
	return []change{
		{"an Op more", func(e *entry.Entry) { e.Ops = append(e.Ops, entry.Op{}) }},
		{"an Op less", func(e *entry.Entry) { e.Ops = e.Ops[:len(e.Ops)-1] }},
		{"no first Op", func(e *entry.Entry) { e.Ops = e.Ops[1:] }},
		{"no Op", func(e *entry.Entry) { e.Ops = nil }},
		{"an Event more", func(e *entry.Entry) { e.Events = append(e.Events, entry.Placed{}) }},
		{"an Event less", func(e *entry.Entry) { e.Events = e.Events[:len(e.Events)-1] }},
		{"no first Event", func(e *entry.Entry) { e.Events = e.Events[1:] }},
		{"no Event", func(e *entry.Entry) { e.Events = nil }},
		{"one in Open more", func(e *entry.Entry) { e.Tick.Snap.Open = append(e.Tick.Snap.Open, 0) }},
		{"one in Open less", func(e *entry.Entry) { e.Tick.Snap.Open = e.Tick.Snap.Open[:len(e.Tick.Snap.Open)-1] }},
		{"no first one in Open", func(e *entry.Entry) { e.Tick.Snap.Open = e.Tick.Snap.Open[1:] }},
		{"nobody in Open", func(e *entry.Entry) { e.Tick.Snap.Open = nil }},
	}
}

// Two that are alike in all, whatever their Kind has; with lists of their own, or one's.
func TestSame(t *testing.T) {
	for kind := range 256 {
		for _, e := range bases(byte(kind)) {
			alike(t, "itself", e, e, true)
			alike(t, "one like it", e, copied(e), true)
		}
		alike(t, "no field", entry.Entry{Kind: byte(kind)}, entry.Entry{Kind: byte(kind)}, true)
	}
	alike(t, "zero", entry.Entry{}, entry.Entry{}, true)
}

// Two that differ in one field alone, whether their Kind has it or not.
func TestSameOfOneField(t *testing.T) {
	for kind := range 256 {
		for _, e := range []entry.Entry{full(byte(kind)), edge(byte(kind))} {
			for _, one := range append(fieldChanges(), listChanges()...) {
				x := copied(e)
				one.do(&x)
				alike(t, one.field, e, x, false)
				alike(t, one.field, x, copied(x), true)
			}
		}
	}
}

// Two fields that differ don't make up for each other.
func TestSameOfTwoFields(t *testing.T) {
	e := full(entry.Commit)
	for _, one := range fieldChanges() {
		for _, other := range append(fieldChanges(), listChanges()...) {
			if one.field == other.field {
				continue
			}
			x, y := copied(e), copied(e)
			one.do(&x)
			other.do(&x)
			other.do(&y)
			alike(t, one.field+", "+other.field, e, x, false)
			alike(t, other.field, e, y, false)
		}
	}
}

// Fields that have one type don't stand for each other.
func TestSameOfFieldsThatChangePlaces(t *testing.T) {
	set := []func(e *entry.Entry, n int64){
		func(e *entry.Entry, n int64) { e.Tx = n },
		func(e *entry.Entry, n int64) { e.Next = n },
		func(e *entry.Entry, n int64) { e.NextID = n },
		func(e *entry.Entry, n int64) { e.Tick.N = n },
		func(e *entry.Entry, n int64) { e.Tick.Snap.Max = n },
		func(e *entry.Entry, n int64) { e.Tick.Snap.Open[0] = n },
		func(e *entry.Entry, n int64) { e.Tick.Snap.Open[2] = n },
		func(e *entry.Entry, n int64) { e.Tick.At = n },
		func(e *entry.Entry, n int64) { e.N = n },
		func(e *entry.Entry, n int64) { e.At = n },
	}
	for i, one := range set {
		for j, other := range set {
			for _, n := range []int64{1, -1, deep, far} {
				a, b := full(entry.Tick), full(entry.Tick)
				one(&a, n)
				other(&b, n)
				alike(t, "one number", a, b, i == j)
				other(&a, n)
				one(&b, n)
				alike(t, "both", a, b, true)
			}
		}
	}
}

// A list of no element is one, nil or not, whatever it has room for.
func TestSameOfEmptyLists(t *testing.T) {
	empties := []func(e *entry.Entry){
		func(e *entry.Entry) { e.Ops, e.Events, e.Tick.Snap.Open = nil, nil, nil },
		func(e *entry.Entry) { e.Ops, e.Events, e.Tick.Snap.Open = []entry.Op{}, []entry.Placed{}, []int64{} },
		func(e *entry.Entry) { e.Ops, e.Events, e.Tick.Snap.Open = e.Ops[:0], nil, e.Tick.Snap.Open[:0] },
		func(e *entry.Entry) { e.Ops, e.Events, e.Tick.Snap.Open = nil, e.Events[:0], []int64{} },
	}
	for kind := range 256 {
		for _, one := range empties {
			for _, other := range empties {
				a, b := full(byte(kind)), full(byte(kind))
				one(&a)
				other(&b)
				alike(t, "no element", a, b, true)
				alike(t, "some", a, full(byte(kind)), false)
			}
		}
	}
}

// The same elements in another order aren't the same list.
func TestSameOfOrders(t *testing.T) {
	for _, do := range []func(e *entry.Entry){
		func(e *entry.Entry) { slices.Reverse(e.Ops) },
		func(e *entry.Entry) { slices.Reverse(e.Events) },
		func(e *entry.Entry) { slices.Reverse(e.Tick.Snap.Open) },
	} {
		e := full(entry.Commit)
		do(&e)
		alike(t, "another order", e, full(entry.Commit), false)
		do(&e)
		alike(t, "that order again", e, full(entry.Commit), true)
	}
}

// Of lists of unlike lengths one may be the other's beginning, and one of them may be of zero elements.
func TestSameOfLengths(t *testing.T) {
	for n := range 6 {
		for m := range 6 {
			for _, c := range []struct{ a, b entry.Entry }{
				{entry.Entry{Ops: make([]entry.Op, n)}, entry.Entry{Ops: make([]entry.Op, m)}},
				{entry.Entry{Events: make([]entry.Placed, n)}, entry.Entry{Events: make([]entry.Placed, m)}},
				{opens(n), opens(m)},
			} {
				alike(t, "lengths", c.a, c.b, n == m)
			}
		}
	}
}

func opens(n int) entry.Entry {
	return entry.Entry{Tick: api.Tick{Snap: api.Snapshot{Open: make([]int64, n)}}}
}

// Entries that may not be encoded are held against each other as others are.
func TestSameOfWhatMayNotBeLaid(t *testing.T) {
	for _, one := range turns() {
		e := turned(full(entry.Commit), one)
		alike(t, one.part, e, copied(e), true)
		if !one.right {
			alike(t, one.part, e, full(entry.Commit), false)
		}
	}
	for _, n := range append([]int{math.MinInt, -1}, farPlaces...) {
		a := entry.Entry{Ops: ops(op(n, false, 0, "")), Events: events(placed(n, api.Event{}))}
		alike(t, "places", a, copied(a), true)
		b := copied(a)
		b.Ops[1].Table ^= 1 << 33
		alike(t, "a table", a, b, false)
		b = copied(a)
		b.Events[1].Spool ^= 1 << 8
		alike(t, "a spool", a, b, false)
	}
}

// near is one of few entries, so that often two are alike.
func near(r *rand.Rand) entry.Entry {
	e := entry.Entry{Kind: byte(r.Intn(2))}
	for range r.Intn(3) {
		switch r.Intn(8) {
		case 0:
			e.Tx++
		case 1:
			e.Name += "a"
		case 2:
			e.Ops = append(e.Ops, op(r.Intn(2), r.Intn(2) > 0, 0, ""))
		case 3:
			e.Events = append(e.Events, placed(r.Intn(2), api.Event{Tries: r.Intn(2)}))
		case 4:
			e.Tick.Snap.Open = append(e.Tick.Snap.Open, int64(r.Intn(2)))
		case 5:
			e.Ops = e.Ops[:0:0]
		case 6:
			e.At--
		}
	}
	return e
}

func TestSameAtRandom(t *testing.T) {
	r := rand.New(rand.NewSource(1))
	count := map[bool]int{}
	for range 200000 {
		a, b := near(r), near(r)
		want := reflect.DeepEqual(bare(a), bare(b))
		alike(t, "at random", a, b, want)
		count[want]++
	}
	if count[true] < 1000 || count[false] < 1000 {
		t.Error(count)
	}
}
