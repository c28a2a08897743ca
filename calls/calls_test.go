package calls

import (
	"math"
	"reflect"
	"strings"
	"testing"

	"carrier/api"
	"carrier/batch"
	"carrier/block"
	"carrier/code"
	"carrier/crc"
	"carrier/cursor"
	"carrier/desk"
	"carrier/entry"
	"carrier/event"
	"carrier/heap"
	"carrier/judge"
	"carrier/queue"
	"carrier/rel"
	"carrier/retry"
	"carrier/snap"
	"carrier/source"
	"carrier/spool"
	"carrier/system"
	"carrier/target"
	"carrier/tick"
	"carrier/txn"
	"carrier/wal"
)

// functions are the calls that are no methods: those that the chapters list, and crc.Sum beside them.
func functions() map[string]any {
	return map[string]any{
		"crc.Of": crc.Of, "crc.More": crc.More, "crc.Calls": crc.Calls, "crc.Sum": crc.Sum,
		"code.NewReader": code.NewReader,
		"block.New":      block.New,
		"wal.Frame":      wal.Frame, "wal.Open": wal.Open,
		"snap.Right": snap.Right, "snap.Sees": snap.Sees, "snap.Least": snap.Least, "snap.Covers": snap.Covers, "snap.Same": snap.Same,
		"txn.New":  txn.New,
		"heap.New": heap.New,
		"rel.New":  rel.New, "rel.Ops": rel.Ops,
		"event.Right": event.Right, "event.Encode": event.Encode, "event.Decode": event.Decode, "event.Due": event.Due,
		"spool.New": spool.New,
		"tick.New":  tick.New,
		"batch.Of":  batch.Of, "batch.Needs": batch.Needs, "batch.Free": batch.Free,
		"cursor.New":   cursor.New,
		"retry.New":    retry.New,
		"queue.New":    queue.New,
		"entry.Encode": entry.Encode, "entry.Decode": entry.Decode, "entry.Same": entry.Same,
		"source.Open": source.Open,
		"target.Open": target.Open, "target.Replay": target.Replay,
		"system.New": system.New, "system.Same": system.Same,
		"judge.Once": judge.Once, "judge.Feed": judge.Feed, "judge.Follow": judge.Follow, "judge.Round": judge.Round,
		"judge.Drain": judge.Drain, "judge.Sound": judge.Sound, "judge.Copied": judge.Copied,
		"desk.New": desk.New, "desk.Run": desk.Run,
	}
}

// objects are makers of what has methods: the nil ones of all layers, and others.
func objects() map[string]func() any {
	return map[string]func() any{
		"nil code.Writer":    func() any { return (*code.Writer)(nil) },
		"nil code.Reader":    func() any { return (*code.Reader)(nil) },
		"nil block.Device":   func() any { return (*block.Device)(nil) },
		"nil wal.Log":        func() any { return (*wal.Log)(nil) },
		"nil txn.Manager":    func() any { return (*txn.Manager)(nil) },
		"nil heap.Heap":      func() any { return (*heap.Heap)(nil) },
		"nil rel.Rel":        func() any { return (*rel.Rel)(nil) },
		"nil spool.Spools":   func() any { return (*spool.Spools)(nil) },
		"nil tick.Ticks":     func() any { return (*tick.Ticks)(nil) },
		"nil cursor.Cursors": func() any { return (*cursor.Cursors)(nil) },
		"nil retry.Retries":  func() any { return (*retry.Retries)(nil) },
		"nil queue.Queue":    func() any { return (*queue.Queue)(nil) },
		"nil source.Source":  func() any { return (*source.Source)(nil) },
		"nil target.Target":  func() any { return (*target.Target)(nil) },
		"nil system.System":  func() any { return (*system.System)(nil) },
		"nil desk.Desk":      func() any { return (*desk.Desk)(nil) },

		"code.Writer":                        func() any { return &code.Writer{} },
		"code.Reader, no bytes":              func() any { return code.NewReader(nil) },
		"code.Reader, a text":                func() any { return code.NewReader([]byte("\x02ab")) },
		"code.Reader, a text that is cut":    func() any { return code.NewReader([]byte("\x05ab")) },
		"code.Reader, a number that is cut":  func() any { return code.NewReader([]byte("\x80\x80")) },
		"code.Reader, the greatest number":   func() any { return code.NewReader([]byte("\xff\xff\xff\xff\xff\xff\xff\xff\xff\x01ab")) },
		"code.Reader, a number that is more": func() any { return code.NewReader([]byte(strings.Repeat("\xff", 30))) },

		"block.Device, no block":          func() any { return block.New(0) },
		"block.Device, below 0":           func() any { return block.New(math.MinInt) },
		"block.Device":                    func() any { return block.New(3) },
		"block.Device, far too many":      func() any { return block.New(math.MaxInt) },
		"block.Device, one write waits":   func() any { return written(1) },
		"block.Device, many writes wait":  func() any { return written(50) },
		"block.Device, all is safe again": func() any { return synced(50) },

		"wal.Log, no block":           func() any { return opened(block.New(0)) },
		"wal.Log, one block":          func() any { return opened(block.New(1)) },
		"wal.Log, the most blocks":    func() any { return opened(block.New(api.MaxBlocks)) },
		"wal.Log, other bytes":        func() any { return opened(written(50)) },
		"wal.Log, records":            func() any { return opened(logged(20)) },
		"wal.Log, no room":            func() any { return opened(logged(api.MaxBlocks)) },
		"wal.Log, its device crashed": func() any { return crashed() },

		"txn.Manager, none has begun":    func() any { return txn.New() },
		"txn.Manager, some are open":     func() any { return begun(3) },
		"txn.Manager, no room":           func() any { return begun(api.MaxOpen) },
		"txn.Manager, loaded":            func() any { return loaded(41) },
		"txn.Manager, the last number":   func() any { return loaded(api.MaxTxid - 1) },
		"txn.Manager, no number is left": func() any { return loaded(api.MaxTxid) },

		"heap.Heap, its manager is nil":  func() any { return heap.New(nil) },
		"heap.Heap, none has begun":      func() any { return heap.New(txn.New()) },
		"heap.Heap, no version":          func() any { return heap.New(begun(3)) },
		"heap.Heap, versions":            func() any { h, _ := versions(); return h },
		"heap.Heap, none is open":        func() any { return reloaded(41) },
		"heap.Heap, no number is left":   func() any { return reloaded(api.MaxTxid) },
		"heap.Heap, nobody ever was":     func() any { return reloaded(1) },
		"heap.Heap, 1 is open again":     func() any { return again() },
		"heap.Heap, several of each key": func() any { return several() },
		"heap.Heap, vacuumed":            func() any { return vacuumed() },

		"rel.Rel, its manager is nil":  func() any { return rel.New(nil, 2) },
		"rel.Rel, below 1 table":       func() any { return rel.New(begun(3), math.MinInt) },
		"rel.Rel, far too many tables": func() any { return rel.New(begun(api.MaxOpen), math.MaxInt) },
		"rel.Rel, none has begun":      func() any { return rel.New(txn.New(), 2) },
		"rel.Rel, rows":                func() any { r, _ := store(); return r },
		"rel.Rel, none is open":        func() any { r, m := store(); m.Load(41, []int64{1, 40}); return r },
		"rel.Rel, nobody ever was":     func() any { r, m := store(); m.Load(1, nil); return r },
		"rel.Rel, vacuumed":            func() any { r, m := store(); r.Vacuum(m.Now()); return r },

		"spool.Spools": func() any { return spool.New() },
		"spool.Spools, events in the current one": func() any { return spooled(0, 0) },
		"spool.Spools, events in the next one":    func() any { return spooled(0, 1) },
		"spool.Spools, events in some":            func() any { return spooled(1, 0, 1) },
		"spool.Spools, events in all":             func() any { return spooled(0, 0, 1, 2) },
		"spool.Spools, the last one is current":   func() any { return spooled(2, 2, 1, 0) },
		"spool.Spools, all is forgotten":          func() any { return forgotten() },

		"tick.Ticks":                func() any { return tick.New() },
		"tick.Ticks, some are kept": func() any { return ticked(3) },
		"tick.Ticks, no room":       func() any { return ticked(api.MaxTicks) },
		"tick.Ticks, some are gone": func() any { return trimmed(20) },
		"tick.Ticks, just the last": func() any { return trimmed(41) },

		"cursor.Cursors":                     func() any { return cursor.New() },
		"cursor.Cursors, one, none open":     func() any { return registered(1) },
		"cursor.Cursors, some, none open":    func() any { return registered(3) },
		"cursor.Cursors, some, batches open": func() any { return reading(3) },
		"cursor.Cursors, no room, none open": func() any { return registered(api.MaxConsumers) },
		"cursor.Cursors, no room, all open":  func() any { return reading(api.MaxConsumers) },
		"cursor.Cursors, all finished":       func() any { return finished(api.MaxConsumers) },
		"cursor.Cursors, all are gone":       func() any { return unregistered() },

		"retry.Retries":                  func() any { return retry.New() },
		"retry.Retries, one waits":       func() any { return waiting(1) },
		"retry.Retries, some wait":       func() any { return waiting(kinds) },
		"retry.Retries, no room":         func() any { return waiting(api.MaxRetries) },
		"retry.Retries, some were taken": func() any { r := waiting(api.MaxRetries); r.Take(0); return r },
		"retry.Retries, all were taken":  func() any { r := waiting(api.MaxRetries); r.Take(math.MaxInt64); return r },
		"retry.Retries, all are dropped": func() any { return dropped() },

		"queue.Queue":                                     func() any { return queue.New(txn.New()) },
		"queue.Queue, its manager is nil":                 func() any { return queue.New(nil) },
		"queue.Queue, events alone":                       func() any { return queued(0, 0, 2) },
		"queue.Queue, ticks alone":                        func() any { return queued(3, 0, 0) },
		"queue.Queue, some of all":                        func() any { return queued(3, 2, 2) },
		"queue.Queue, as many as may be":                  func() any { return queued(api.MaxTicks, api.MaxConsumers, api.MaxRetries) },
		"queue.Queue, the last ID":                        func() any { q := queued(3, 2, 2); q.SetNextID(math.MaxInt64); return q },
		"queue.Queue, all have finished":                  func() any { return drained() },
		"queue.Queue, its ticks are gone":                 func() any { q := queued(5, 2, 2); q.Ticks().Trim(math.MaxInt64); return q },
		"queue.Queue, consumers of ticks that never were": func() any { return unticked() },
		"queue.Queue, its manager was loaded since":       func() any { return forgetful() },

		"source.Source":                      func() any { return sourced(300) },
		"source.Source, no block":            func() any { return sourced(0) },
		"source.Source, one block":           func() any { return sourced(1) },
		"source.Source, some of all":         func() any { return worked(300) },
		"source.Source, no room":             func() any { return worked(12) },
		"source.Source, as many as may be":   func() any { return crowded() },
		"source.Source, staged":              func() any { return staged() },
		"source.Source, no number is left":   func() any { return lastSource() },
		"source.Source, misled from outside": func() any { return misled() },
		"source.Source, opened again":        func() any { return reopened() },
	}
}

// begun is a manager of whom so many are open, behind one that was committed, and one that was aborted.
func begun(open int) *txn.Manager {
	m := txn.New()
	for range 2 + open {
		m.Begin()
		m.Commit(1)
		m.Abort(2)
	}
	return m
}

// loaded is a manager that goes on at next; the first and the last one ahead of it were committed.
func loaded(next int64) *txn.Manager {
	m := begun(3)
	m.Load(next, []int64{1, next - 1})
	return m
}

// versions is a heap with versions of the keys that odd has, and of others, by those who
// are open, were committed, and were aborted; and its manager.
func versions() (*heap.Heap, *txn.Manager) {
	m := txn.New()
	h := heap.New(m)
	for i := range 9 {
		x, _ := m.Begin()
		v := heap.View{Snap: m.Now(), Own: x}
		for _, key := range []int64{0, 1, -1, 41, math.MaxInt64, math.MinInt64, int64(i)} {
			r := api.Row{Key: key, Text: strings.Repeat("t", i)}
			if h.Insert(v, r) == api.ErrDup && i%2 == 0 {
				h.Update(v, r)
			} else if i == 5 {
				h.Delete(v, key)
			}
		}
		switch i % 3 {
		case 0:
			m.Commit(x)
		case 1:
			m.Abort(x)
		}
	}
	return h, m
}

// reloaded is a heap with versions whose manager was loaded since: it doesn't know all of their transactions.
func reloaded(next int64) *heap.Heap {
	h, m := versions()
	m.Load(next, nil)
	if next > 3 {
		m.Load(next, []int64{1, 3, next - 1})
	}
	return h
}

// again is a heap with versions whose manager was loaded since: 1, who bore the first ones, is open again.
func again() *heap.Heap {
	h, m := versions()
	m.Load(1, nil)
	m.Begin()
	return h
}

// several is a heap of whose keys one view may see several versions; 41 is open.
func several() *heap.Heap {
	m := loaded(41)
	h := heap.New(m)
	m.Begin()
	for range 3 {
		for _, key := range []int64{0, 1, -1, 41, math.MaxInt64, math.MinInt64} {
			h.Redo(1, []heap.Op{{Row: api.Row{Key: key}}, {Row: api.Row{Key: key, Text: "t"}}})
			h.Redo(40, []heap.Op{{Gone: true, Row: api.Row{Key: key}}})
			h.Insert(heap.View{Own: 41}, api.Row{Key: key, Text: "u"})
		}
	}
	return h
}

// vacuumed is a heap all of whose versions but a few were let go.
func vacuumed() *heap.Heap {
	h, m := versions()
	h.Vacuum(m.Now())
	return h
}

// store is tables with rows of the keys that odd has, by those who are open, were committed, and were aborted;
// and their manager.
func store() (*rel.Rel, *txn.Manager) {
	m := txn.New()
	r := rel.New(m, api.MaxTables)
	for i := range 9 {
		x, _ := m.Begin()
		v := heap.View{Snap: m.Now(), Own: x}
		for _, key := range []int64{0, 1, -1, 41, math.MaxInt64, math.MinInt64} {
			for table := range r.Tables() {
				r.Run(v, rel.Stmt{Kind: byte(1 + (i+table)%3), Table: table, Row: api.Row{Key: key}})
			}
		}
		switch i % 3 {
		case 0:
			m.Commit(x)
		case 1:
			m.Abort(x)
		}
	}
	return r, m
}

// spooled is spools with events of all kinds in those tables, and that current one.
func spooled(cur int, tables ...int) *spool.Spools {
	s := spool.New()
	for range cur {
		s.Rotate(false)
	}
	for _, i := range tables {
		for kind := range 2 * kinds {
			s.AddTo(i, change(kind%kinds))
		}
	}
	return s
}

// forgotten is spools all of whose events are gone again.
func forgotten() *spool.Spools {
	s := spooled(1, 0, 1, 2)
	for kind := range kinds {
		s.Forget(change(kind).Tx)
	}
	return s
}

// ticked is ticks of which so many are kept, the last one with open ones.
func ticked(kept int) *tick.Ticks {
	t := tick.New()
	for n := range kept {
		t.Add(api.Snapshot{Max: int64(n + 3), Open: []int64{1, int64(n + 2)}}, int64(n-1))
	}
	return t
}

// trimmed is ticks of which those below a number were let go.
func trimmed(below int64) *tick.Ticks {
	t := ticked(41)
	t.Trim(below)
	return t
}

// registered are so many consumers, by names that odd has, of whom none has a batch open.
func registered(consumers int) *cursor.Cursors {
	c := cursor.New()
	for n := range consumers {
		c.Register(consumer(n), int64(n+1))
	}
	return c
}

// reading are so many consumers, each with a batch open: the first one's up to the greatest number.
func reading(consumers int) *cursor.Cursors {
	c := registered(consumers)
	for n := range consumers {
		c.Open(consumer(n), math.MaxInt64-int64(n))
	}
	return c
}

// finished are so many consumers who have finished all up to numbers that are far away.
func finished(consumers int) *cursor.Cursors {
	c := reading(consumers)
	for n := range consumers {
		c.Finish(consumer(n))
	}
	return c
}

// unregistered are consumers who are gone again, with their batches open.
func unregistered() *cursor.Cursors {
	c := reading(api.MaxConsumers)
	for n := range api.MaxConsumers {
		c.Unregister(consumer(n))
	}
	return c
}

// consumer is one of odd's texts that may be a name.
func consumer(n int) string {
	return odd(reflect.TypeFor[string](), [api.MaxConsumers]int{1, 2, 3, 5}[n]).String()
}

// waiting are so many events of all kinds that come again, for owners that odd has, at times on all edges.
func waiting(items int) *retry.Retries {
	r := retry.New()
	for n := range kinds * kinds {
		if len(r.All()) == items {
			break
		}
		at := odd(reflect.TypeFor[int64](), n/2%kinds).Int()
		r.Add(change(n%kinds), odd(reflect.TypeFor[string](), n/kinds).String(), at)
	}
	return r
}

// dropped are retries all of whose items are gone again.
func dropped() *retry.Retries {
	r := waiting(api.MaxRetries)
	for _, x := range r.All() {
		r.Drop(x.Event.Owner)
	}
	return r
}

// snapshot is the zero one, one of each of Right ones (that sees nobody, few, very many), and such as aren't.
func snapshot(kind int) api.Snapshot {
	open := odd(reflect.TypeFor[[]int64](), kind).Interface().([]int64)
	switch kind {
	case 1:
		return api.Snapshot{Max: 1}
	case 2:
		return api.Snapshot{Max: math.MaxInt64, Open: []int64{1, 41, 42, math.MaxInt64 - 1}}
	case 3:
		return api.Snapshot{Max: 41, Open: open}
	case 4:
		return api.Snapshot{Max: 42, Open: []int64{1, 2, 41}}
	case 5:
		return api.Snapshot{Max: math.MinInt64, Open: open}
	}
	return api.Snapshot{}
}

// statement is one of each of the Kinds, in a table that there is; those that can't be are tried in rel.
func statement(kind int) rel.Stmt {
	r := odd(reflect.TypeFor[api.Row](), kind).Interface().(api.Row)
	return rel.Stmt{Kind: byte(1 + kind), Table: kind % 2, Row: r}
}

// change is an event: none, one of each of the Kinds, on the edges of what may be, and one beyond all of them.
func change(kind int) api.Event {
	r := odd(reflect.TypeFor[api.Row](), kind).Interface().(api.Row)
	switch kind {
	case 1:
		return api.Event{ID: 1, Tx: 1, Kind: api.Insert, Row: r}
	case 2:
		return api.Event{ID: 2, Tx: 1, Owner: "a", Tries: 1, Table: 1, Kind: api.Update, Row: r}
	case 3:
		return api.Event{ID: 41, Tx: 41, Owner: api.Replica, Kind: api.Delete, Row: api.Row{Key: r.Key}}
	case 4:
		most := strings.Repeat("x", api.MaxText)
		return api.Event{ID: math.MaxInt64, Tx: math.MaxInt64, Owner: most, Tries: math.MaxInt32, Table: api.MaxTables - 1, Kind: api.Truncate, Row: api.Row{Key: r.Key, Text: most}}
	case 5:
		return api.Event{ID: math.MinInt64, Tx: -1, Owner: strings.Repeat("y", 41), Tries: math.MinInt, Table: math.MaxInt, Kind: math.MaxUint8, Row: r}
	}
	return api.Event{}
}

// manager is one of the kinds of managers: none, one of whom none has begun, some, as many as may be, and loaded ones.
func manager(kind int) *txn.Manager {
	switch kind {
	case 1:
		return txn.New()
	case 2:
		return begun(3)
	case 3:
		return begun(api.MaxOpen)
	case 4:
		return loaded(41)
	case 5:
		return loaded(api.MaxTxid)
	}
	return nil
}

// opened is the log on a device.
func opened(d *block.Device) *wal.Log {
	l, _, _ := wal.Open(d)
	return l
}

// logged is a device with a log of records of just a block each: so many as there is room for.
func logged(records int) *block.Device {
	d := block.New(api.MaxBlocks / 8)
	l := opened(d)
	for range records {
		l.Append([]byte(strings.Repeat("r", api.BlockSize-6)))
	}
	return d
}

// crashed is a log whose device crashed since.
func crashed() *wal.Log {
	d := logged(20)
	l := opened(d)
	d.Crash(make([]bool, 10), 1)
	return l
}

// device is one of the kinds of devices: none, of no block, of one, of many, with bytes of all sorts, with records.
func device(kind int) *block.Device {
	switch kind {
	case 1:
		return block.New(0)
	case 2:
		d := block.New(1)
		d.Write(0, []byte("\x00\x02ab"))
		return d
	case 3:
		d := synced(50)
		for i := range d.Size() {
			d.Write(i, []byte(strings.Repeat("\xff", api.BlockSize)))
		}
		return d
	case 4:
		return block.New(math.MaxInt)
	case 5:
		return logged(20)
	}
	return nil
}

// written is a device with writes that wait, of all lengths, in all its blocks.
func written(writes int) *block.Device {
	d := block.New(2)
	for i := range writes {
		d.Write(i%d.Size(), make([]byte, i%(api.BlockSize+1)))
	}
	return d
}

func synced(writes int) *block.Device {
	d := written(writes)
	d.Sync()
	return d
}

// kinds is how many odd values there are of a type, at most.
const kinds = 6

// odd is one of the values of a type that are on some edge.
func odd(t reflect.Type, kind int) reflect.Value {
	switch t {
	case reflect.TypeFor[*block.Device]():
		return reflect.ValueOf(device(kind))
	case reflect.TypeFor[*txn.Manager]():
		return reflect.ValueOf(manager(kind))
	case reflect.TypeFor[api.Snapshot]():
		return reflect.ValueOf(snapshot(kind))
	case reflect.TypeFor[rel.Stmt]():
		return reflect.ValueOf(statement(kind))
	case reflect.TypeFor[api.Event]():
		return reflect.ValueOf(change(kind))
	case reflect.TypeFor[entry.Entry]():
		return reflect.ValueOf(record(kind))
	}
	v := reflect.New(t).Elem()
	switch t.Kind() {
	case reflect.Bool:
		v.SetBool(kind%2 == 1)
	case reflect.Int, reflect.Int64:
		v.SetInt([kinds]int64{0, 1, -1, 41, math.MaxInt64, math.MinInt64}[kind])
	case reflect.Uint8, reflect.Uint32, reflect.Uint64:
		v.SetUint([kinds]uint64{0, 1, 2, 41, math.MaxInt64, math.MaxUint64}[kind] & (1<<t.Bits() - 1))
	case reflect.String:
		v.SetString([kinds]string{"", "a", "\xff\x00", strings.Repeat("x", 40), strings.Repeat("y", 41), "a b\nc"}[kind])
	case reflect.Slice:
		for i := range [kinds]int{0, 1, 2, 3, 5, 41}[kind] {
			v.Set(reflect.Append(v, odd(t.Elem(), (kind+i)%kinds)))
		}
	case reflect.Struct:
		for i := range t.NumField() {
			v.Field(i).Set(odd(t.Field(i).Type, (kind+i)%kinds))
		}
	}
	return v
}

// lists are all lists of odd values of the types from the i-th on.
func lists(t reflect.Type, i int) [][]reflect.Value {
	if i == t.NumIn() {
		return [][]reflect.Value{nil}
	}
	var all [][]reflect.Value
	behind := lists(t, i+1)
	for kind := range kinds {
		if kind > 0 && !hasOdd(t.In(i)) { // there is but nil
			break
		}
		for _, l := range behind {
			all = append(all, append([]reflect.Value{odd(t.In(i), kind)}, l...))
		}
	}
	return all
}

// hasOdd tells whether odd has other values of a type than its zero value.
func hasOdd(t reflect.Type) bool {
	return t.Kind() != reflect.Pointer || t == reflect.TypeFor[*block.Device]() || t == reflect.TypeFor[*txn.Manager]()
}

// call tells a fault if the call panics.
func call(t *testing.T, name string, f reflect.Value, arguments []reflect.Value) {
	t.Helper()
	defer func() {
		if fault := recover(); fault != nil {
			t.Errorf("%s%v: %v", name, arguments, fault)
		}
	}()
	f.Call(arguments)
}

func TestNoFunctionPanics(t *testing.T) {
	for name, f := range functions() {
		v := reflect.ValueOf(f)
		for _, arguments := range lists(v.Type(), 0) {
			call(t, name, v, arguments)
		}
	}
}

func TestNoMethodPanics(t *testing.T) {
	for name, object := range objects() {
		of := reflect.TypeOf(object())
		if of.NumMethod() == 0 {
			t.Error(name, "has no method")
		}
		for i := range of.NumMethod() {
			method := reflect.ValueOf(object()).Method(i)
			for _, arguments := range lists(method.Type(), 0) {
				call(t, name+" "+of.Method(i).Name, reflect.ValueOf(object()).Method(i), arguments)
			}
		}
	}
}

// Two calls, one behind the other, of one object: what the first one leaves must not make the second one panic.
func TestNoTwoMethodsPanic(t *testing.T) {
	for name, object := range objects() {
		of := reflect.TypeOf(object())
		for i := range of.NumMethod() {
			for j := range of.NumMethod() {
				v := reflect.ValueOf(object())
				first, second := v.Method(i), v.Method(j)
				for kind := range kinds {
					call(t, name+" "+of.Method(i).Name, first, sameKind(first.Type(), kind))
					call(t, name+" "+of.Method(j).Name, second, sameKind(second.Type(), kind))
				}
			}
		}
	}
}

// sameKind is a list of odd values, all of that kind.
func sameKind(t reflect.Type, kind int) []reflect.Value {
	var l []reflect.Value
	for i := range t.NumIn() {
		l = append(l, odd(t.In(i), kind))
	}
	return l
}
