package source_test

import (
	"fmt"
	"slices"

	"carrier/api"
	"carrier/cursor"
	"carrier/entry"
	"carrier/rel"
	"carrier/retry"
)

// version is a row, by whom it was born, and by whom it died.
type version struct {
	row   api.Row
	birth int64
	death int64
}

// doing is one who is open.
type doing struct {
	snap api.Snapshot
	n    int
	ops  []entry.Op
}

// model is a source as the chapters word it. Of the program it asks just how long an entry is.
type model struct {
	tables, traced int
	room           int
	size           int
	log            []entry.Entry
	states         []byte // of transactions, from 1 on: o, c, a
	doing          map[int64]*doing
	versions       [4][]version
	id             int64
	cur            int
	lists          [3][]api.Event
	ticks          []api.Tick // all that there ever were
	gone           int        // so many of them, the first ones, are let go
	names          []cursor.Cursor
	items          []retry.Item // as they came
}

func newModel(tables, traced, blocks int) *model {
	return &model{tables: tables, traced: traced, room: 32 * blocks, id: 1, doing: map[int64]*doing{}}
}

func (o *model) state(x int64) byte {
	if x < 1 || x > int64(len(o.states)) {
		return ' '
	}
	return o.states[x-1]
}

func (o *model) next() int64 {
	return int64(len(o.states)) + 1
}

func (o *model) now() api.Snapshot {
	s := api.Snapshot{Max: o.next()}
	for i, state := range o.states {
		if state == 'o' {
			s.Open = append(s.Open, int64(i)+1)
		}
	}
	return s
}

// seesOf asks each number alone.
func seesOf(s api.Snapshot, x int64) bool {
	for _, o := range s.Open {
		if o == x {
			return false
		}
	}
	return 1 <= x && x < s.Max
}

// leastOf is the first number that a snapshot doesn't see.
func leastOf(s api.Snapshot) int64 {
	x := int64(1)
	for seesOf(s, x) {
		x++
	}
	return x
}

func coversOf(a, b api.Snapshot) bool {
	for x := int64(1); x < b.Max; x++ {
		if seesOf(b, x) && !seesOf(a, x) {
			return false
		}
	}
	return true
}

// append is layer 4's.
func (o *model) append(e entry.Entry) api.Errno {
	n := len(entry.Encode(e))
	switch {
	case n == 0 || n > 4000:
		return api.ErrArg
	case o.size+6+n > o.room:
		return api.ErrFull
	}
	o.log = append(o.log, e)
	o.size += 6 + n
	return api.OK
}

func (o *model) begin() (int64, api.Errno) {
	if len(o.doing) == 6 || o.next() == 1<<20 {
		return 0, api.ErrFull
	}
	x := o.next()
	o.states = append(o.states, 'o')
	o.doing[x] = &doing{snap: o.now()}
	return x, api.OK
}

func (o *model) end(x int64, state byte) {
	delete(o.doing, x)
	o.states[x-1] = state
}

// sees tells whether a view sees a version; own is 0 for nobody.
func (o *model) sees(s api.Snapshot, own int64, v version) bool {
	seen := func(x int64) bool { return x > 0 && x == own || o.state(x) == 'c' && seesOf(s, x) }
	return seen(v.birth) && !seen(v.death)
}

// taken tells whether that number is of one who is open, but own, or committed.
func (o *model) taken(own, x int64) bool {
	return o.state(x) == 'o' && x != own || o.state(x) == 'c'
}

// seen are the places of a table's versions that one who is open sees, by the keys.
func (o *model) seen(x int64, table int) []int {
	var l []int
	for i, v := range o.versions[table] {
		if !o.sees(o.doing[x].snap, x, v) {
			continue
		}
		place := len(l)
		for place > 0 && v.row.Key < o.versions[table][l[place-1]].row.Key {
			place--
		}
		l = slices.Insert(l, place, i)
	}
	return l
}

func (o *model) rows(table int, s api.Snapshot) []api.Row {
	if table < 0 || table >= o.tables {
		return nil
	}
	var l []api.Row
	for _, v := range o.versions[table] {
		if !o.sees(s, 0, v) {
			continue
		}
		place := len(l)
		for place > 0 && v.row.Key < l[place-1].Key {
			place--
		}
		l = slices.Insert(l, place, v.row)
	}
	return l
}

// place is that of the version with a key that one who is open sees, or -1.
func (o *model) place(x int64, table int, key int64) int {
	for _, i := range o.seen(x, table) {
		if o.versions[table][i].row.Key == key {
			return i
		}
	}
	return -1
}

func (o *model) insert(x int64, table int, r api.Row) api.Errno {
	if o.place(x, table, r.Key) >= 0 {
		return api.ErrDup
	}
	for _, v := range o.versions[table] {
		if v.row.Key == r.Key && o.taken(x, v.birth) && v.death != x && o.state(v.death) != 'c' {
			return api.ErrConflict
		}
	}
	o.versions[table] = append(o.versions[table], version{row: r, birth: x})
	return api.OK
}

func (o *model) remove(x int64, table int, key int64) api.Errno {
	i := o.place(x, table, key)
	switch {
	case i < 0:
		return api.ErrNone
	case o.taken(x, o.versions[table][i].death):
		return api.ErrConflict
	}
	o.versions[table][i].death = x
	return api.OK
}

func (o *model) truncate(x int64, table int) ([]api.Row, api.Errno) {
	var l []api.Row
	for _, i := range o.seen(x, table) {
		if o.taken(x, o.versions[table][i].death) {
			return nil, api.ErrConflict
		}
		l = append(l, o.versions[table][i].row)
	}
	for _, i := range o.seen(x, table) {
		o.versions[table][i].death = x
	}
	return l, api.OK
}

func (o *model) run(x int64, st rel.Stmt) ([]api.Row, api.Errno) {
	w, is := o.doing[x]
	if !is {
		return nil, api.ErrState
	}
	changes := st.Kind == 1 || st.Kind == 2 || st.Kind == 3 || st.Kind == 4
	there := st.Table >= 0 && st.Table < o.tables
	if changes && w.n == 40 || st.Kind == 4 && there && len(o.seen(x, st.Table)) > 40 {
		return nil, api.ErrFull
	}
	if st.Kind < 1 || st.Kind > 6 || !there || (st.Kind == 1 || st.Kind == 2) && len(st.Row.Text) > 40 {
		return nil, api.ErrArg
	}
	if !changes {
		return o.read(x, st)
	}
	rows, e := o.change(x, st)
	if e != api.OK {
		return nil, e
	}
	w.n++
	if st.Kind != 4 {
		o.did(x, st, put(st.Table, st.Row.Key, st.Row.Text), st.Kind == 3)
	}
	for _, r := range rows {
		o.did(x, st, put(st.Table, r.Key, r.Text), true)
	}
	return rows, api.OK
}

func (o *model) read(x int64, st rel.Stmt) ([]api.Row, api.Errno) {
	var l []api.Row
	for _, i := range o.seen(x, st.Table) {
		if r := o.versions[st.Table][i].row; st.Kind == 6 || r.Key == st.Row.Key {
			l = append(l, r)
		}
	}
	if st.Kind == 5 && len(l) == 0 {
		return nil, api.ErrNone
	}
	return l, api.OK
}

func (o *model) change(x int64, st rel.Stmt) ([]api.Row, api.Errno) {
	switch st.Kind {
	case 1:
		return nil, o.insert(x, st.Table, st.Row)
	case 2:
		e := o.remove(x, st.Table, st.Row.Key)
		if e == api.OK {
			o.versions[st.Table] = append(o.versions[st.Table], version{row: st.Row, birth: x})
		}
		return nil, e
	case 3:
		return nil, o.remove(x, st.Table, st.Row.Key)
	}
	return o.truncate(x, st.Table)
}

// did keeps an op, and writes its event.
func (o *model) did(x int64, st rel.Stmt, op entry.Op, gone bool) {
	r := op.Row
	if gone {
		r.Text = ""
	}
	op.Gone = gone
	o.doing[x].ops = append(o.doing[x].ops, op)
	if st.Table < o.traced {
		o.lists[o.cur] = append(o.lists[o.cur], api.Event{ID: o.id, Tx: x, Table: st.Table, Kind: st.Kind, Row: r})
		o.id++
	}
}

// committing is the entry of a Commit.
func (o *model) committing(x int64) (entry.Entry, bool) {
	w, is := o.doing[x]
	if !is {
		return entry.Entry{}, false
	}
	e := entry.Entry{Kind: 1, Tx: x, Next: o.next(), NextID: o.id, Ops: w.ops}
	for i, l := range o.lists {
		for _, one := range l {
			if one.Tx == x {
				e.Events = append(e.Events, entry.Placed{Spool: i, Event: one})
			}
		}
	}
	for i := range e.Events { // each goes to its place among those ahead of it
		for j := i; j > 0 && e.Events[j].Event.ID < e.Events[j-1].Event.ID; j-- {
			e.Events[j], e.Events[j-1] = e.Events[j-1], e.Events[j]
		}
	}
	return e, true
}

func (o *model) commit(x int64) api.Errno {
	e, is := o.committing(x)
	if !is {
		return api.ErrState
	}
	if refusal := o.append(e); refusal != api.OK {
		return refusal
	}
	o.end(x, 'c')
	return api.OK
}

func (o *model) abort(x int64) api.Errno {
	if _, is := o.doing[x]; !is {
		return api.ErrState
	}
	o.end(x, 'a')
	for i, l := range o.lists {
		o.lists[i] = slices.DeleteFunc(l, func(e api.Event) bool { return e.Tx == x })
	}
	return api.OK
}

func (o *model) vacuum() int {
	least := leastOf(o.now())
	for _, w := range o.doing {
		least = min(least, leastOf(w.snap))
	}
	n := 0
	for i, l := range o.versions {
		var left []version
		for _, v := range l {
			if o.state(v.birth) == 'a' || o.state(v.death) == 'c' && v.death < least {
				n++
			} else {
				left = append(left, v)
			}
		}
		o.versions[i] = left
	}
	return n
}

// again is what Open makes of a log; nil: it can't be done.
func (o *model) again(log []entry.Entry) *model {
	m := newModel(o.tables, o.traced, o.room/32)
	committed := map[int64]bool{}
	for _, e := range log {
		if m.append(e) != api.OK || !m.redo(e, committed) {
			return nil
		}
	}
	return m
}

// load is layer 6's.
func (o *model) load(next int64, committed map[int64]bool) bool {
	if next < 1 || next > 1<<20 {
		return false
	}
	o.states = slices.Repeat([]byte{'a'}, int(next-1))
	for x := range committed {
		if x < 1 || x >= next {
			return false
		}
		o.states[x-1] = 'c'
	}
	return true
}

func (o *model) redo(e entry.Entry, committed map[int64]bool) bool {
	switch e.Kind {
	case 1, 8:
		return o.redoCommit(e, committed)
	case 2:
		if o.mayTick(e.Tick) != api.OK || e.Tick.N != int64(len(o.ticks))+1 {
			return false
		}
		o.ticks = append(o.ticks, e.Tick)
		return o.next() >= e.Tick.Snap.Max || o.load(e.Tick.Snap.Max, committed)
	case 3:
		return o.register(e.Name, e.N) == api.OK
	case 4:
		return o.unregister(e.Name) == api.OK
	case 5:
		i, x, refusal := o.behind(e.Name)
		if refusal == api.OK {
			o.names[i].Open = x.N
		}
		return refusal == api.OK && x.N == e.N
	case 6:
		i, n, refusal := o.opened(e.Name)
		if refusal == api.OK {
			o.names[i].Last, o.names[i].Open = n, 0
		}
		return refusal == api.OK && n == e.N
	case 7:
		one, refusal := o.mayRetry(e.Name, e.N)
		if refusal == api.OK {
			o.items = append(o.items, retry.Item{At: e.At, Event: one})
		}
		return refusal == api.OK
	case 9:
		return int64(o.round(true)) == e.N
	case 10:
		o.trimBelow(e.N)
		return true
	}
	return false
}

func (o *model) redoCommit(e entry.Entry, committed map[int64]bool) bool {
	committed[e.Tx] = true
	if !o.load(e.Next, committed) {
		return false
	}
	for _, op := range e.Ops {
		if op.Table >= o.tables {
			return false
		}
		for i, v := range o.versions[op.Table] {
			if v.row.Key == op.Row.Key && o.state(v.birth) == 'c' && o.state(v.death) != 'c' {
				o.versions[op.Table][i].death = e.Tx
				break
			}
		}
		if !op.Gone {
			o.versions[op.Table] = append(o.versions[op.Table], version{row: op.Row, birth: e.Tx})
		}
	}
	for _, p := range e.Events {
		if p.Spool >= 3 || p.Event.Table >= o.tables {
			return false
		}
		o.lists[p.Spool] = append(o.lists[p.Spool], p.Event)
	}
	o.id = e.NextID
	if e.Kind == 8 {
		o.items = slices.DeleteFunc(o.items, func(x retry.Item) bool { return x.At <= e.At })
	}
	return true
}

// tell is all that the source must tell of itself.
func (o *model) tell() told {
	is := told{now: o.now(), states: []byte{0}, id: o.id, cur: o.cur, lists: o.lists, ticks: o.ticks[o.gone:], items: o.waits(), free: o.free(), size: o.size}
	for _, state := range o.states {
		is.states = append(is.states, map[byte]byte{'o': 1, 'c': 2, 'a': 3}[state])
	}
	is.states = append(is.states, 0)
	for _, c := range o.names {
		place := len(is.names)
		for place > 0 && c.Name < is.names[place-1].Name {
			place--
		}
		is.names = slices.Insert(is.names, place, c)
	}
	for _, c := range is.names {
		l, e := o.batch(c.Name)
		is.opens = append(is.opens, opened{l, e})
	}
	for table := -1; table <= 4; table++ {
		is.rows = append(is.rows, fmt.Sprint(o.rows(table, is.now)))
		for _, x := range is.ticks {
			is.rows = append(is.rows, fmt.Sprint(o.rows(table, x.Snap)))
		}
	}
	return is
}
