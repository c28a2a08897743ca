package heap_test

import (
	"slices"
	"testing"

	"carrier/api"
	"carrier/heap"
	"carrier/snap"
	"carrier/txn"
)

// version is one as the chapter words it.
type version struct {
	row          api.Row
	birth, death int64
}

// model is a heap as the chapter words it: all versions, of all keys, in the order of their births.
type model struct {
	manager  *txn.Manager
	versions []*version
}

func (o *model) state(x int64) byte {
	return o.manager.State(x)
}

func (o *model) sees(v heap.View, x int64) bool {
	if v.Own > 0 && x == v.Own {
		return true
	}
	return o.state(x) == txn.Committed && snap.Sees(v.Snap, x)
}

func (o *model) seen(v heap.View) []*version {
	var l []*version
	for _, one := range o.versions {
		if o.sees(v, one.birth) && !o.sees(v, one.death) {
			l = append(l, one)
		}
	}
	slices.SortStableFunc(l, func(a, b *version) int {
		switch {
		case a.row.Key < b.row.Key:
			return -1
		case a.row.Key > b.row.Key:
			return 1
		}
		return 0
	})
	return l
}

func (o *model) get(v heap.View, key int64) *version {
	for _, one := range o.seen(v) {
		if one.row.Key == key {
			return one
		}
	}
	return nil
}

func (o *model) scan(v heap.View) []api.Row {
	var l []api.Row
	for _, one := range o.seen(v) {
		l = append(l, one.row)
	}
	return l
}

// lives is a transaction that is open, another one than own, or one that is committed.
func (o *model) lives(own, x int64) bool {
	return o.state(x) == txn.Open && x != own || o.state(x) == txn.Committed
}

func (o *model) insert(v heap.View, r api.Row) api.Errno {
	if o.state(v.Own) != txn.Open {
		return api.ErrState
	}
	if o.get(v, r.Key) != nil {
		return api.ErrDup
	}
	for _, one := range o.versions {
		dead := one.death == v.Own || o.state(one.death) == txn.Committed
		if one.row.Key == r.Key && o.lives(v.Own, one.birth) && !dead {
			return api.ErrConflict
		}
	}
	o.versions = append(o.versions, &version{r, v.Own, 0})
	return api.OK
}

func (o *model) delete(v heap.View, key int64) api.Errno {
	if o.state(v.Own) != txn.Open {
		return api.ErrState
	}
	one := o.get(v, key)
	if one == nil {
		return api.ErrNone
	}
	if o.lives(v.Own, one.death) {
		return api.ErrConflict
	}
	one.death = v.Own
	return api.OK
}

func (o *model) update(v heap.View, r api.Row) api.Errno {
	e := o.delete(v, r.Key)
	if e == api.OK {
		o.versions = append(o.versions, &version{r, v.Own, 0})
	}
	return e
}

func (o *model) truncate(v heap.View) ([]api.Row, api.Errno) {
	if o.state(v.Own) != txn.Open {
		return nil, api.ErrState
	}
	rows := o.scan(v)
	all := o.seen(v)
	for _, one := range all {
		if o.lives(v.Own, one.death) {
			return nil, api.ErrConflict
		}
	}
	for _, one := range all {
		one.death = v.Own
	}
	return rows, api.OK
}

func (o *model) redo(x int64, ops []heap.Op) api.Errno {
	if o.state(x) != txn.Committed {
		return api.ErrState
	}
	for _, op := range ops {
		for _, one := range o.versions {
			if one.row.Key == op.Row.Key && o.state(one.birth) == txn.Committed && o.state(one.death) != txn.Committed {
				one.death = x
				break
			}
		}
		if !op.Gone {
			o.versions = append(o.versions, &version{op.Row, x, 0})
		}
	}
	return api.OK
}

func (o *model) vacuum(s api.Snapshot) int {
	var kept []*version
	for _, one := range o.versions {
		dead := o.state(one.death) == txn.Committed && snap.Sees(s, one.death)
		if o.state(one.birth) != txn.Aborted && !dead {
			kept = append(kept, one)
		}
	}
	n := len(o.versions) - len(kept)
	o.versions = kept
	return n
}

// walk is a heap, its model, and whoever has begun; what is done is read from bytes.
type walk struct {
	t       *testing.T
	bytes   []byte
	manager *txn.Manager
	heap    *heap.Heap
	model   *model
	views   []heap.View // of each that has begun, as it was then
}

func newWalk(t *testing.T, p []byte) *walk {
	m := txn.New()
	return &walk{t: t, bytes: p, manager: m, heap: heap.New(m), model: &model{manager: m}}
}

func (w *walk) read(below int) int {
	if len(w.bytes) == 0 {
		return 0
	}
	b := w.bytes[0]
	w.bytes = w.bytes[1:]
	return int(b) % below
}

func (w *walk) row() api.Row {
	keys := []int64{0, 1, 2, 3, -1, -7, deep, far}
	texts := []string{"", "a", "b", "c", "long and longer"}
	return row(keys[w.read(len(keys))], texts[w.read(len(texts))])
}

// snapshot is one of any kind.
func (w *walk) snapshot() api.Snapshot {
	s := at(w.manager.Next() + 1 - int64(w.read(8)))
	for range w.read(4) {
		s.Open = append(s.Open, w.manager.Next()-int64(w.read(9)))
	}
	return s
}

// view is one that is open, mostly; or it has ended; or, if odd ones are wanted, any.
func (w *walk) view(odd bool) heap.View {
	open := w.manager.Now().Open
	switch kind := w.read(16); {
	case odd && kind < 5:
		return heap.View{Snap: w.snapshot(), Own: w.manager.Next() + 1 - int64(w.read(9))}
	case len(w.views) == 0:
		return heap.View{}
	case kind == 5 || len(open) == 0:
		return w.views[w.read(len(w.views))]
	}
	own := open[w.read(len(open))]
	i := slices.IndexFunc(w.views, func(v heap.View) bool { return v.Own == own })
	return w.views[i]
}

// end ends one that is open, mostly; others begin then.
func (w *walk) end(commit bool) {
	x := w.view(false).Own
	if commit {
		w.manager.Commit(x)
	} else {
		w.manager.Abort(x)
	}
}

func (w *walk) begin() {
	if x, e := w.manager.Begin(); e == api.OK {
		w.views = append(w.views, heap.View{Snap: w.manager.Now(), Own: x})
	}
}

// load makes the manager know other ones than have been.
func (w *walk) load() {
	next := max(1, w.manager.Next()-int64(w.read(3)))
	var committed []int64
	for x := int64(1); x < next; x++ {
		if w.read(3) > 0 {
			committed = append(committed, x)
		}
	}
	ok(w.t, w.manager.Load(next, committed))
	w.views = slices.DeleteFunc(w.views, func(v heap.View) bool { return v.Own >= next })
}

func (w *walk) redo() {
	x := w.manager.Next() - int64(w.read(6))
	var ops []heap.Op
	for range w.read(5) {
		ops = append(ops, heap.Op{Gone: w.read(2) == 0, Row: w.row()})
	}
	w.same("Redo", w.heap.Redo(x, ops), w.model.redo(x, ops))
}

// vacuum: whoever sees at least what the snapshot sees, and isn't aborted, is told nothing else behind it.
func (w *walk) vacuum(odd bool) {
	s := w.manager.Now()
	if odd {
		s = w.snapshot()
	} else if len(w.views) > 0 {
		s = w.views[w.read(len(w.views))].Snap
	}
	var covering []heap.View
	var before [][]api.Row
	for _, v := range append(slices.Clone(w.views), heap.View{Snap: w.manager.Now()}, heap.View{Snap: s}) {
		covers := snap.Right(s) && snap.Right(v.Snap) && snap.Covers(v.Snap, s) || snap.Same(v.Snap, s)
		if covers && w.manager.State(v.Own) != txn.Aborted {
			covering = append(covering, v)
			before = append(before, w.heap.Scan(v))
		}
	}
	if n, want := w.heap.Vacuum(s), w.model.vacuum(s); n != want {
		w.t.Fatalf("Vacuum(%v): %d, not %d", s, n, want)
	}
	for i, v := range covering {
		if got := w.heap.Scan(v); !slices.Equal(got, before[i]) {
			w.t.Fatalf("%v: %v, not %v, behind Vacuum(%v)", v, got, before[i], s)
		}
	}
}

func (w *walk) same(name string, got, want api.Errno) {
	w.t.Helper()
	if got != want {
		w.t.Fatalf("%s: %d, not %d", name, got, want)
	}
}

// write is a statement of a view.
func (w *walk) write(kind int, v heap.View) {
	w.t.Helper()
	r := w.row()
	switch {
	case kind < 6:
		w.same("Insert", w.heap.Insert(v, r), w.model.insert(v, r))
	case kind < 10:
		w.same("Update", w.heap.Update(v, r), w.model.update(v, r))
	case kind < 13:
		w.same("Delete", w.heap.Delete(v, r.Key), w.model.delete(v, r.Key))
	default:
		rows, e := w.heap.Truncate(v)
		wanted, want := w.model.truncate(v)
		w.same("Truncate", e, want)
		if !slices.Equal(rows, wanted) {
			w.t.Fatalf("Truncate: %v, not %v", rows, wanted)
		}
	}
}

// step does one; odd ones are those that a store never does: views that aren't those of a Begin, Load, Redo.
func (w *walk) step(odd bool) {
	w.t.Helper()
	switch kind := w.read(32); {
	case kind < 5:
		w.begin()
	case kind < 8:
		w.end(true)
	case kind < 10:
		w.end(false)
	case kind < 12:
		w.vacuum(odd)
	case odd && kind == 12:
		w.load()
	case odd && kind < 16:
		w.redo()
	default:
		w.write(w.read(14), w.view(odd))
	}
}

// alike holds the heap against its model: what some views are told, all of those that are open among them.
func (w *walk) alike(odd bool) {
	w.t.Helper()
	if w.heap.Len() != len(w.model.versions) {
		w.t.Fatalf("Len: %d, not %d", w.heap.Len(), len(w.model.versions))
	}
	views := []heap.View{{Snap: w.manager.Now()}, w.view(odd)}
	for _, v := range w.views[max(0, len(w.views)-12):] {
		views = append(views, v)
	}
	for _, v := range views {
		got, want := w.heap.Scan(v), w.model.scan(v)
		if !slices.Equal(got, want) {
			w.t.Fatalf("%v: Scan: %v, not %v", v, got, want)
		}
		if !odd && w.manager.State(v.Own) != txn.Aborted {
			w.once(got)
		}
		r := w.row()
		row, there := w.heap.Get(v, r.Key)
		if one := w.model.get(v, r.Key); there != (one != nil) || there && row != one.row || !there && row != (api.Row{}) {
			w.t.Fatalf("%v: Get(%d): %v, %t", v, r.Key, row, there)
		}
	}
}

// once: of no key there are several rows.
func (w *walk) once(rows []api.Row) {
	w.t.Helper()
	for i := 1; i < len(rows); i++ {
		if rows[i-1].Key == rows[i].Key {
			w.t.Fatalf("several of one key: %v", rows)
		}
	}
}

func steps(t *testing.T, p []byte, odd bool) {
	t.Helper()
	w := newWalk(t, p)
	for len(w.bytes) > 0 {
		w.step(odd)
		w.alike(odd)
	}
}

// mixed is n bytes of all kinds.
func mixed(seed uint32, n int) []byte {
	p := make([]byte, n)
	x := seed
	for i := range p {
		x = x*1664525 + 1013904223
		p[i] = byte(x >> 24)
	}
	return p
}

// Transactions side by side, each with the snapshot of its Begin: none is ever told two rows of one key.
func TestManySteps(t *testing.T) {
	for seed := range uint32(300) {
		steps(t, mixed(seed, 3000), false)
	}
}

func TestManyOddSteps(t *testing.T) {
	for seed := range uint32(300) {
		steps(t, mixed(seed, 3000), true)
	}
}

func FuzzSteps(f *testing.F) {
	f.Add(mixed(1, 200), false)
	f.Add(mixed(2, 200), true)
	f.Fuzz(steps)
}
