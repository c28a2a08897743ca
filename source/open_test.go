package source_test

import (
	"fmt"
	"math"
	"slices"
	"testing"

	"carrier/api"
	"carrier/block"
	"carrier/cursor"
	"carrier/entry"
	"carrier/retry"
	"carrier/source"
	"carrier/wal"
)

func TestOpenOfNoDevice(t *testing.T) {
	for _, n := range []int{math.MinInt, 0, 1, math.MaxInt} {
		if s, e := source.Open(nil, n, n); s != nil || e != api.ErrNone {
			t.Error(s, e)
		}
	}
}

// empty is what a new source tells.
func empty() told {
	is := told{now: at(1), states: []byte{0, 0}, id: 1, free: true}
	for range 6 {
		is.rows = append(is.rows, "[]")
	}
	return is
}

func TestOpenOfANewDevice(t *testing.T) {
	for _, n := range []int{math.MinInt, 0, 1, 2, 100, math.MaxInt} {
		d := block.New(n)
		is(t, open(t, d, 2, 1), empty())
		if d.Waiting() != 0 || content(d) != letters("\x00", d.Size()*api.BlockSize) {
			t.Error(n)
		}
	}
}

// A device that holds anything, but no frame, is made a new one.
func TestOpenOfAnyBytes(t *testing.T) {
	for _, p := range []string{"\x00", "\xff", "\x00\x01abcd", "text"} {
		d := block.New(20)
		for i := range d.Size() {
			d.Write(i, []byte((p + letters(p, api.BlockSize))[:api.BlockSize]))
		}
		is(t, open(t, d, 2, 1), empty())
		if d.Crash(nil, 0); content(d) != letters("\x00", d.Size()*api.BlockSize) {
			t.Errorf("%q", p)
		}
	}
}

// sizes are such as tables and traced may be told.
func sizes() []int {
	return []int{math.MinInt, -1 << 32, -1, 0, 1, 2, 3, 4, 5, 255, 1 << 32, math.MaxInt}
}

func TestTablesAndTraced(t *testing.T) {
	for _, tables := range sizes() {
		for _, traced := range sizes() {
			s := open(t, block.New(100), tables, traced)
			there := min(max(tables, 1), 4)
			telling := min(max(traced, 0), there)
			play(t, s, "b")
			for table := -1; table <= 5; table++ {
				want := api.ErrArg
				if table >= 0 && table < there {
					want = api.OK
				}
				if _, e := s.Run(1, stmt(api.Insert, table, 5, "x")); e != want {
					t.Fatal(tables, traced, table, e)
				}
			}
			events := s.Queue().Spools().All()
			if len(events) != telling || telling > 0 && events[telling-1].Table != telling-1 {
				t.Fatal(tables, traced, events)
			}
			play(t, s, "c1")
			for table := -1; table <= 5; table++ {
				if l := s.Rows(table, at(2)); (len(l) == 1) != (table >= 0 && table < there) {
					t.Fatal(tables, traced, table, l)
				}
			}
		}
	}
}

// whole is a log with entries of every Kind that a source has.
func whole() []entry.Entry {
	return []entry.Entry{
		{Kind: entry.Commit, Tx: 2, Next: 4, NextID: 9, Ops: []entry.Op{put(0, 5, "a"), put(1, 6, "b"), put(0, 7, "c"), gone(0, 5, "x")}, Events: in(2, event(7, 2, 0, 1, 5, "a"))},
		{Kind: entry.Tick, Tick: api.Tick{N: 1, Snap: at(6, 3, 4), At: -5}},
		{Kind: entry.Register, Name: "a", N: 1},
		{Kind: entry.Register, Name: "b", N: 1},
		{Kind: entry.Rotate, N: 2},
		{Kind: entry.Rotate, N: 1},
		{Kind: entry.Rotate, N: 2},
		{Kind: entry.Commit, Tx: 4, Next: 7, NextID: 30, Ops: []entry.Op{put(0, 7, "d"), put(0, 5, "e")}, Events: append(in(2, event(20, 4, 0, 2, 7, "d")), in(1, event(21, 4, 0, 1, 5, "e"))...)},
		{Kind: entry.Tick, Tick: api.Tick{N: 2, Snap: at(7), At: -5}},
		{Kind: entry.Open, Name: "a", N: 2},
		{Kind: entry.Retry, Name: "a", N: 21, At: 8},
		{Kind: entry.Retry, Name: "a", N: 20, At: 9},
		{Kind: entry.Finish, Name: "a", N: 2},
		{Kind: entry.Maint, Tx: 7, Next: 8, NextID: 30, Events: in(0, api.Event{ID: 21, Tx: 7, Owner: "a", Tries: 1, Kind: 1, Row: row(5, "e")}), At: 8},
		{Kind: entry.Tick, Tick: api.Tick{N: 3, Snap: at(9), At: 0}},
		{Kind: entry.Open, Name: "a", N: 3},
		{Kind: entry.Register, Name: "c", N: 2},
		{Kind: entry.Unregister, Name: "b"},
		{Kind: entry.Trim, N: 2},
	}
}

func TestOpenDoesEachKindAgain(t *testing.T) {
	d := remembered(t, whole()...)
	bytes := content(d)
	s := open(t, d, 3, 2)
	again := api.Event{ID: 21, Tx: 7, Owner: "a", Tries: 1, Kind: 1, Row: row(5, "e")}
	waits := api.Event{ID: 20, Tx: 4, Owner: "a", Tries: 1, Kind: 2, Row: row(7, "d")}
	want := told{
		now: at(9), states: []byte{0, 3, 2, 3, 2, 3, 3, 2, 3, 0}, id: 30, cur: 2,
		lists: [3][]api.Event{{again}, {event(21, 4, 0, 1, 5, "e")}, {event(20, 4, 0, 2, 7, "d")}},
		ticks: []api.Tick{{N: 2, Snap: at(7), At: -5}, {N: 3, Snap: at(9), At: 0}},
		names: []cursor.Cursor{{Name: "a", Last: 2, Open: 3}, {Name: "c", Last: 2}},
		items: []retry.Item{{At: 9, Event: waits}},
		opens: []opened{{[]api.Event{again}, api.OK}, {nil, api.ErrState}},
		size:  len(slices.Concat(frames(whole())...)),
	}
	for _, rows := range []string{"[]", "[{5 e} {7 d}]", "[{6 b}]", "[]", "[]", "[]"} {
		want.rows = append(want.rows, rows, rows, rows)
	}
	is(t, s, want)
	if l := s.Rows(0, at(6, 3, 4)); !slices.Equal(l, []api.Row{row(7, "c")}) {
		t.Error(l)
	}
	if l := s.Rows(0, at(5, 2, 3)); !slices.Equal(l, []api.Row{row(5, "e"), row(7, "d")}) {
		t.Error(l)
	}
	if content(d) != bytes || d.Waiting() != 0 {
		t.Error("the device is another one")
	}
	// of each first part of it, too
	for n := range whole() {
		o := newModel(3, 2, 1000).again(whole()[:n])
		is(t, open(t, remembered(t, whole()[:n]...), 3, 2), o.tell())
	}
}

// frames are the entries' frames.
func frames(entries []entry.Entry) [][]byte {
	var l [][]byte
	for _, e := range entries {
		l = append(l, wal.Frame(entry.Encode(e)))
	}
	return l
}

// refused tells a fault if a device isn't refused, or changed by more than the log's Open.
func refused(t *testing.T, name string, d *block.Device, tables int) {
	t.Helper()
	want := twin(d)
	wal.Open(want)
	if s, e := source.Open(d, tables, 1); s != nil || e != api.ErrForm {
		t.Errorf("%s: %v, %d", name, s, e)
	}
	if content(d) != content(want) || d.Waiting() != 0 {
		t.Error(name, "changed the device")
	}
}

func TestOpenRefusesWhatIsNoEntry(t *testing.T) {
	good := entry.Encode(entry.Entry{Kind: entry.Rotate, N: 2})
	for _, p := range []string{"\x00", "\x0c", "\xff", "\x09", "\x09\x02\x00", "\x09\x80", "\x01\x01\x02\x01\x00", "\x01\x01\x02\x01\x00\x00\x00", "\x03\x00", letters("\x00", 4000), letters("x", 4000)} {
		for _, where := range []int{0, 1, 2} {
			d := block.New(400)
			l, _, _ := wal.Open(d)
			for i := range 3 {
				record := good
				if i == where {
					record = []byte(p)
				}
				if e := l.Append(record); e != api.OK {
					t.Fatal(e)
				}
			}
			l.Sync()
			refused(t, fmt.Sprintf("%.20q", p), d, 3)
			d.Write(399, []byte("behind all frames"))
			refused(t, fmt.Sprintf("%.20q", p), d, 3)
		}
	}
}

// undoable are entries that can't be done behind those of whole.
func undoable() map[string]entry.Entry {
	commit := func(x, next int64) entry.Entry { return entry.Entry{Kind: entry.Commit, Tx: x, Next: next, NextID: 30} }
	maint := func(x, next int64) entry.Entry {
		return entry.Entry{Kind: entry.Maint, Tx: x, Next: next, NextID: 30, At: 1}
	}
	with := func(e entry.Entry, ops []entry.Op, events []entry.Placed) entry.Entry {
		e.Ops, e.Events = ops, events
		return e
	}
	tick := func(n, when, most int64, open ...int64) entry.Entry {
		return entry.Entry{Kind: entry.Tick, Tick: api.Tick{N: n, Snap: at(most, open...), At: when}}
	}
	named := func(kind byte, name string, n int64) entry.Entry {
		return entry.Entry{Kind: kind, Name: name, N: n}
	}
	return map[string]entry.Entry{
		"Commit: nobody": commit(0, 10), "Commit: who hasn't begun": commit(10, 10), "Commit: far away": commit(far, 10),
		"Commit: Next is 0": commit(9, 0), "Commit: Next is too much": commit(9, api.MaxTxid+1), "Commit: Next is far away": commit(9, far),
		"Commit: Next isn't above who was committed": commit(5, 7),
		"Commit: a Table":          with(commit(9, 10), []entry.Op{put(0, 8, ""), put(3, 8, "")}, nil),
		"Commit: a Table, gone":    with(commit(9, 10), []entry.Op{gone(3, 8, "")}, nil),
		"Commit: a Table, far":     with(commit(9, 10), []entry.Op{put(255, 8, "")}, nil),
		"Commit: a Spool":          with(commit(9, 10), nil, append(in(2, event(30, 9, 0, 1, 8, "")), in(3, event(31, 9, 0, 1, 8, ""))...)),
		"Commit: a Spool, far":     with(commit(9, 10), nil, in(255, event(30, 9, 0, 1, 8, ""))),
		"Commit: an Event's Table": with(commit(9, 10), nil, in(1, event(30, 9, 3, 1, 8, ""))),
		"Maint: nobody":            maint(0, 10), "Maint: who hasn't begun": maint(10, 10), "Maint: Next is too much": maint(9, api.MaxTxid+1),
		"Maint: Next is 0": maint(9, 0), "Maint: Next isn't above who was committed": maint(5, 7),
		"Maint: a Spool":          with(maint(9, 10), nil, in(3, event(20, 9, 0, 1, 8, ""))),
		"Maint: an Event's Table": with(maint(9, 10), nil, in(1, event(20, 9, 3, 1, 8, ""))),
		"Tick: 0":                 tick(0, 1, 9), "Tick: kept": tick(3, 1, 9), "Tick: let go": tick(1, 1, 9), "Tick: one is between": tick(5, 1, 9), "Tick: far away": tick(far, 1, 9),
		"Tick: no Max": tick(4, 1, 0), "Tick: Open isn't below Max": tick(4, 1, 9, 9), "Tick: Open doesn't rise": tick(4, 1, 12, 10, 9), "Tick: twice": tick(4, 1, 12, 10, 10), "Tick: Open is 0": tick(4, 1, 12, 0),
		"Tick: doesn't cover, Max": tick(4, 1, 8), "Tick: doesn't cover, Open": tick(4, 1, 12, 2), "Tick: too early": tick(4, -1, 9),
		"Tick: Max is too much": tick(4, 1, api.MaxTxid+1), "Tick: Max is far away": tick(4, 1, far),
		"Register: no name": named(entry.Register, "", 3), "Register: there is one": named(entry.Register, "a", 3), "Register: at 0": named(entry.Register, "d", 0),
		"Unregister: nobody": named(entry.Unregister, "b", 0), "Unregister: no name": named(entry.Unregister, "", 0),
		"Open: nobody": named(entry.Open, "b", 3), "Open: one is open": named(entry.Open, "a", 3), "Open: a tick further": named(entry.Open, "c", 4), "Open: a tick less": named(entry.Open, "c", 2), "Open: 0": named(entry.Open, "c", 0), "Open: nobody, 0": named(entry.Open, "b", 0), "Open: one is open, 0": named(entry.Open, "a", 0),
		"Finish: nobody": named(entry.Finish, "b", 3), "Finish: none is open": named(entry.Finish, "c", 3), "Finish: a tick further": named(entry.Finish, "a", 4), "Finish: a tick less": named(entry.Finish, "a", 2), "Finish: 0": named(entry.Finish, "a", 0), "Finish: nobody, 0": named(entry.Finish, "b", 0), "Finish: none is open, 0": named(entry.Finish, "c", 0),
		"Retry: nobody": named(entry.Retry, "b", 21), "Retry: none is open": named(entry.Retry, "c", 21), "Retry: no such event": named(entry.Retry, "a", 22), "Retry: of another batch": named(entry.Retry, "a", 20),
		"Rotate: 0": named(entry.Rotate, "", 0), "Rotate: another number": named(entry.Rotate, "", 3), "Rotate: it isn't empty": named(entry.Rotate, "", 2), "Rotate: far away": named(entry.Rotate, "", 257),
		"Applied": {Kind: entry.Applied, N: 4}, "Applied, Ops": {Kind: entry.Applied, N: 4, Ops: []entry.Op{put(0, 5, "x")}},
	}
}

func TestOpenRefusesWhatCantBeDone(t *testing.T) {
	open(t, remembered(t, whole()...), 3, 2)
	good := entry.Entry{Kind: entry.Rotate, N: 1}
	open(t, remembered(t, append(whole(), good)...), 3, 2)
	for name, e := range undoable() {
		refused(t, name, remembered(t, append(whole(), e)...), 3)
		refused(t, name+", and more behind", remembered(t, append(whole(), e, good)...), 3)
	}
}

// What is refused behind other entries.
func TestOpenRefusesBehind(t *testing.T) {
	tick := func(n int64) entry.Entry {
		return entry.Entry{Kind: entry.Tick, Tick: api.Tick{N: n, Snap: at(1), At: 5}}
	}
	come := func(name string) entry.Entry { return entry.Entry{Kind: entry.Register, Name: name, N: 1} }
	next := entry.Entry{Kind: entry.Open, Name: "a", N: 2}
	again := func(id int64) entry.Entry { return entry.Entry{Kind: entry.Retry, Name: "a", N: id, At: 5} }
	many := entry.Entry{Kind: entry.Commit, Tx: 1, Next: 2, NextID: 9}
	for id := range int64(17) {
		many.Events = append(many.Events, in(0, event(id+1, 1, 0, 1, 5, ""))...)
	}
	reading := []entry.Entry{tick(1), come("a"), many, {Kind: entry.Tick, Tick: api.Tick{N: 2, Snap: at(2), At: 5}}, next}
	ticks, comers, retries := []entry.Entry{}, []entry.Entry{tick(1)}, slices.Clone(reading)
	for n := range int64(api.MaxTicks) {
		ticks = append(ticks, tick(n+1))
	}
	for _, name := range []string{"a", "b", "c", "d"} {
		comers = append(comers, come(name))
	}
	for id := range int64(api.MaxRetries) {
		retries = append(retries, again(id+1))
	}
	for name, c := range map[string]struct {
		log  []entry.Entry
		more entry.Entry
	}{
		"the first tick is 2":             {nil, tick(2)},
		"one tick more than may be kept":  {ticks, tick(api.MaxTicks + 1)},
		"one consumer more than may be":   {comers, come("e")},
		"there is no tick behind":         {comers, entry.Entry{Kind: entry.Open, Name: "a", N: 2}},
		"it waits already":                {retries[:8], again(3)},
		"one retry more than may be":      {retries, again(17)},
		"a tick that isn't the next one":  {append(ticks[:3:3], come("a")), entry.Entry{Kind: entry.Open, Name: "a", N: 3}},
		"the next spool is empty":         {nil, entry.Entry{Kind: entry.Rotate, N: 1}},
		"a Maint of another who is there": {reading, entry.Entry{Kind: entry.Maint, Tx: 3, Next: 3, NextID: 9}},
	} {
		open(t, remembered(t, c.log...), 3, 2)
		refused(t, name, remembered(t, append(slices.Clone(c.log), c.more)...), 3)
	}
}

// What looks odd, but can be done.
func TestOpenDoesOddEntries(t *testing.T) {
	s := open(t, remembered(t,
		entry.Entry{Kind: entry.Trim, N: 0}, entry.Entry{Kind: entry.Trim, N: far},
		entry.Entry{Kind: entry.Commit, Tx: 1, Next: api.MaxTxid, NextID: far, Ops: []entry.Op{gone(2, 5, "x"), put(2, 5, ""), put(2, 5, "y")}},
		entry.Entry{Kind: entry.Commit, Tx: 1, Next: 2, NextID: 0, Events: in(1, event(far, far, 2, 4, deep, ""))}, // Next is less, 1 is committed again; who tells isn't asked
		entry.Entry{Kind: entry.Maint, Tx: 2, Next: 3, NextID: 7, At: deep},
		entry.Entry{Kind: entry.Register, Name: letters("a", 40), N: far},
	), 3, 0)
	want := told{now: at(3), states: []byte{0, 2, 2, 0}, id: 7, lists: [3][]api.Event{nil, {event(far, far, 2, 4, deep, "")}, nil}, names: []cursor.Cursor{{Name: letters("a", 40), Last: far}}}
	want.rows, want.opens, want.free, want.size = []string{"[]", "[]", "[]", "[{5 y}]", "[]", "[]"}, []opened{{nil, api.ErrState}}, true, s.Size()
	is(t, s, want)
}

// A table more or less than there were: what the log has must have its Table. Which ones are traced is of what comes alone.
func TestOpenWithOtherTables(t *testing.T) {
	d, s := made(t, "b i1.0.5=a c1 b i2.1.6=b c2 t0 +a")
	refused(t, "one table", twin(d), 1)
	for tables := 2; tables <= 4; tables++ {
		for traced := range tables + 1 {
			again := open(t, twin(d), tables, traced)
			is(t, again, tell(s))
			play(t, again, "b i3.0.7=c i3.1.8=d")
			if n := again.Queue().Spools().Len(); n != 2+min(traced, 2) {
				t.Error(tables, traced, n)
			}
		}
	}
}
