package rel_test

import (
	"cmp"
	"maps"
	"slices"
	"testing"

	"carrier/api"
	"carrier/heap"
	"carrier/rel"
	"carrier/snap"
	"carrier/txn"
)

// most is how many tables the stores of these tests have.
const most = 3

// version is a row's text, by whom it was born, and a number of its own.
type version struct {
	text string
	by   int64
	n    int
}

// rowsOf are versions by tables and keys.
type rowsOf [most]map[int64]version

func (r rowsOf) clone() rowsOf {
	for i := range r {
		r[i] = maps.Clone(r[i])
	}
	return r
}

// sorted are a table's rows, by their keys, rising.
func (r rowsOf) sorted(table int) []api.Row {
	var l []api.Row
	for key, one := range r[table] {
		l = append(l, row(key, one.text))
	}
	slices.SortFunc(l, func(a, b api.Row) int { return cmp.Compare(a.Key, b.Key) })
	return l
}

// writer is a transaction that is open: the rows that it sees, in which what it does is done at once.
type writer struct {
	view  heap.View
	rows  rowsOf
	bore  [most]map[int64]bool // keys of which it has borne a version
	let   map[int]bool         // the numbers of others' versions that it let die
	steps []func(rows rowsOf)  // what it has done, to be done again when it commits
}

// plain is a store without a version that nobody sees: what whoever begins now sees, and who is open.
type plain struct {
	rows rowsOf
	open map[int64]*writer
	n    int
}

func newPlain() *plain {
	o := &plain{open: map[int64]*writer{}}
	for i := range o.rows {
		o.rows[i] = map[int64]version{}
	}
	return o
}

func (o *plain) begin(v heap.View) {
	w := &writer{view: v, rows: o.rows.clone(), let: map[int]bool{}}
	for i := range w.bore {
		w.bore[i] = map[int64]bool{}
	}
	o.open[v.Own] = w
}

func (o *plain) end(x int64, commit bool) {
	if commit {
		for _, step := range o.open[x].steps {
			step(o.rows)
		}
	}
	delete(o.open, x)
}

// others tells whether that is so of one who is open, but w.
func (o *plain) others(w *writer, is func(other *writer) bool) bool {
	for _, other := range o.open {
		if other != w && is(other) {
			return true
		}
	}
	return false
}

func (o *plain) put(w *writer, table int, r api.Row) {
	o.n++
	one := version{r.Text, w.view.Own, o.n}
	step := func(rows rowsOf) { rows[table][r.Key] = one }
	step(w.rows)
	w.steps = append(w.steps, step)
	w.bore[table][r.Key] = true
}

func (o *plain) drop(w *writer, table int, key int64) {
	if one := w.rows[table][key]; one.by != w.view.Own {
		w.let[one.n] = true
	}
	step := func(rows rowsOf) { delete(rows[table], key) }
	step(w.rows)
	w.steps = append(w.steps, step)
}

// mayDrop tells what is in the way of w to let go the row that it sees.
func (o *plain) mayDrop(w *writer, table int, key int64) api.Errno {
	one, there := w.rows[table][key]
	switch {
	case !there:
		return api.ErrNone
	case one.by == w.view.Own:
		return api.OK
	case o.rows[table][key].n != one.n, o.others(w, func(other *writer) bool { return other.let[one.n] }):
		return api.ErrConflict
	}
	return api.OK
}

// mayPut tells what is in the way of w to bear a row.
func (o *plain) mayPut(w *writer, table int, key int64) api.Errno {
	if _, there := w.rows[table][key]; there {
		return api.ErrDup
	}
	one, there := o.rows[table][key]
	if there && !w.let[one.n] || o.others(w, func(other *writer) bool { return other.bore[table][key] }) {
		return api.ErrConflict
	}
	return api.OK
}

// run is what a statement tells of one who is open, or, if w is nil, of one who isn't; it is done.
func (o *plain) run(w *writer, s rel.Stmt) ([]api.Row, api.Errno) {
	writes := s.Kind == api.Insert || s.Kind == api.Update
	switch {
	case s.Kind < 1, s.Kind > 6, s.Table < 0, s.Table >= most, writes && len(s.Row.Text) > 40:
		return nil, api.ErrArg
	case w == nil:
		return nil, api.ErrState
	}
	one, there := w.rows[s.Table][s.Row.Key]
	switch s.Kind {
	case api.Insert, api.Update, api.Delete:
		return nil, o.change(w, s)
	case api.Truncate:
		return o.truncate(w, s.Table)
	case rel.Scan:
		return w.rows.sorted(s.Table), api.OK
	}
	if !there {
		return nil, api.ErrNone
	}
	return []api.Row{row(s.Row.Key, one.text)}, api.OK
}

func (o *plain) change(w *writer, s rel.Stmt) api.Errno {
	may := o.mayDrop
	if s.Kind == api.Insert {
		may = o.mayPut
	}
	e := may(w, s.Table, s.Row.Key)
	if e == api.OK && s.Kind != api.Insert {
		o.drop(w, s.Table, s.Row.Key)
	}
	if e == api.OK && s.Kind != api.Delete {
		o.put(w, s.Table, s.Row)
	}
	return e
}

func (o *plain) truncate(w *writer, table int) ([]api.Row, api.Errno) {
	rows := w.rows.sorted(table)
	for _, r := range rows {
		if e := o.mayDrop(w, table, r.Key); e != api.OK {
			return nil, e
		}
	}
	for _, r := range rows {
		o.drop(w, table, r.Key)
	}
	return rows, api.OK
}

// dice reads what is done from bytes.
type dice struct {
	bytes []byte
}

func (d *dice) read(below int) int {
	if len(d.bytes) == 0 {
		return 0
	}
	b := d.bytes[0]
	d.bytes = d.bytes[1:]
	return int(b) % below
}

// statement is mostly one that may be.
func (d *dice) statement() rel.Stmt {
	kinds := []byte{1, 1, 1, 1, 1, 2, 2, 2, 3, 3, 4, 5, 5, 6, 0, 7, 255}
	tables := []int{0, 0, 0, 0, 1, 1, 1, 1, 2, 2, 2, 2, -1, 3, 256}
	keys := []int64{0, 1, 2, -1, deep, far}
	texts := []string{"", "a", "b", "c", long(api.MaxText), long(api.MaxText + 1)}
	return stmt(kinds[d.read(len(kinds))], tables[d.read(len(tables))], keys[d.read(len(keys))], texts[d.read(len(texts))])
}

// walk is a store, whoever has begun, and the plain one.
type walk struct {
	dice
	t       *testing.T
	manager *txn.Manager
	rel     *rel.Rel
	plain   *plain
	ended   []heap.View
	told    []api.Errno
}

// one is one who is open, if anybody is.
func (w *walk) one() *writer {
	open := w.manager.Now().Open
	if len(open) == 0 {
		return nil
	}
	return w.plain.open[open[w.read(len(open))]]
}

func (w *walk) begin() {
	if x, e := w.manager.Begin(); e == api.OK {
		w.plain.begin(heap.View{Snap: w.manager.Now(), Own: x})
	}
}

func (w *walk) end(commit bool) {
	one := w.one()
	if one == nil {
		return
	}
	if commit {
		ok(w.t, w.manager.Commit(one.view.Own))
	} else {
		ok(w.t, w.manager.Abort(one.view.Own))
	}
	w.plain.end(one.view.Own, commit)
	w.ended = append(w.ended, one.view)
}

// vacuum is of what nobody sees any more who is open, or begins from now on.
func (w *walk) vacuum() {
	least := snap.Least(w.manager.Now())
	for _, one := range w.plain.open {
		least = min(least, snap.Least(one.view.Snap))
	}
	n := versions(w.rel)
	if gone := w.rel.Vacuum(at(least)); gone != n-versions(w.rel) {
		w.t.Fatal(gone, n, versions(w.rel))
	}
}

func (w *walk) run() {
	s := w.statement()
	one := w.one()
	var v heap.View
	switch n := len(w.ended); {
	case n > 0 && (one == nil || w.read(32) == 0):
		if s.Kind == rel.Get || s.Kind == rel.Scan { // what they see may be gone
			return
		}
		v, one = w.ended[w.read(n)], nil
	case one == nil:
		return
	default:
		v = one.view
	}
	rows, e := w.plain.run(one, s)
	tells(w.t, w.rel, v, s, e, rows...)
	if !slices.Contains(w.told, e) {
		w.told = append(w.told, e)
	}
}

// alike: all who are open, and whoever begins now, must see in all tables what they see in the plain store.
func (w *walk) alike() {
	for i := range most {
		has(w.t, w.rel, heap.View{Snap: w.manager.Now()}, i, w.plain.rows.sorted(i)...)
		for _, one := range w.plain.open {
			has(w.t, w.rel, one.view, i, one.rows.sorted(i)...)
		}
	}
}

func (w *walk) step() {
	switch kind := w.read(32); {
	case kind < 4:
		w.begin()
	case kind < 6:
		w.end(true)
	case kind < 7:
		w.end(false)
	case kind < 8:
		w.vacuum()
	default:
		w.run()
	}
}

// plainly does what the bytes say, and is the errors that were told.
func plainly(t *testing.T, p []byte) []api.Errno {
	m := txn.New()
	w := &walk{dice: dice{p}, t: t, manager: m, rel: rel.New(m, most), plain: newPlain()}
	for len(w.bytes) > 0 {
		w.step()
		w.alike()
	}
	return w.told
}

// all: each error that a statement can tell must be among these.
func all(t *testing.T, told []api.Errno) {
	t.Helper()
	for _, e := range []api.Errno{api.OK, api.ErrArg, api.ErrNone, api.ErrDup, api.ErrConflict, api.ErrState} {
		if !slices.Contains(told, e) {
			t.Error("never told", e)
		}
	}
}

// Transactions side by side, each with the snapshot of its Begin, in several tables.
func TestManySteps(t *testing.T) {
	var told []api.Errno
	for seed := range uint32(150) {
		told = append(told, plainly(t, mixed(seed, 2000))...)
	}
	all(t, told)
}

func FuzzSteps(f *testing.F) {
	f.Add(mixed(1, 200))
	f.Fuzz(func(t *testing.T, p []byte) { plainly(t, p) })
}
