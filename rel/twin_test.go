package rel_test

import (
	"slices"
	"testing"

	"carrier/api"
	"carrier/heap"
	"carrier/rel"
	"carrier/txn"
)

// twins is a store, and as many lone heaps, to which the same is done by layer 7's own calls.
type twins struct {
	dice
	t       *testing.T
	manager *txn.Manager
	rel     *rel.Rel
	heaps   []*heap.Heap
	told    []api.Errno
}

func newTwins(t *testing.T, p []byte) *twins {
	m := txn.New()
	w := &twins{dice: dice{p}, t: t, manager: m}
	n := 1 + w.read(api.MaxTables)
	w.rel = rel.New(m, n)
	for range n {
		w.heaps = append(w.heaps, heap.New(m))
	}
	return w
}

// want is what a statement tells as the chapter words it; it is done to the lone heaps.
func (w *twins) want(v heap.View, s rel.Stmt) ([]api.Row, api.Errno) {
	if s.Kind < api.Insert || s.Kind > rel.Scan || s.Table < 0 || s.Table >= len(w.heaps) {
		return nil, api.ErrArg
	}
	h, tooLong := w.heaps[s.Table], len(s.Row.Text) > api.MaxText
	switch s.Kind {
	case api.Insert:
		if tooLong {
			return nil, api.ErrArg
		}
		return nil, h.Insert(v, s.Row)
	case api.Update:
		if tooLong {
			return nil, api.ErrArg
		}
		return nil, h.Update(v, s.Row)
	case api.Delete:
		return nil, h.Delete(v, s.Row.Key)
	case api.Truncate:
		return h.Truncate(v)
	case rel.Scan:
		return h.Scan(v), api.OK
	}
	if r, there := h.Get(v, s.Row.Key); there {
		return []api.Row{r}, api.OK
	}
	return nil, api.ErrNone
}

// snapshot is one of any kind.
func (w *twins) snapshot() api.Snapshot {
	s := at(w.manager.Next() + 1 - int64(w.read(8)))
	for range w.read(4) {
		s.Open = append(s.Open, w.manager.Next()-int64(w.read(9)))
	}
	return s
}

// view is any: of one who is open, mostly.
func (w *twins) view() heap.View {
	v := heap.View{Snap: w.manager.Now(), Own: w.manager.Next() + 1 - int64(w.read(9))}
	if w.read(3) == 0 {
		v.Snap = w.snapshot()
	}
	if open := w.manager.Now().Open; len(open) > 0 && w.read(4) > 0 {
		v.Own = open[w.read(len(open))]
	}
	return v
}

// run does a statement to both, and holds against each other what they tell.
func (w *twins) run() {
	v, s := w.view(), w.statement()
	before := tables(w.rel)
	rows, e := w.want(v, s)
	tells(w.t, w.rel, v, s, e, rows...)
	if !slices.Contains(w.told, e) {
		w.told = append(w.told, e)
	}
	if e != api.OK || s.Kind == rel.Get || s.Kind == rel.Scan {
		onlyIn(w.t, w.rel, before, -1)
	} else {
		onlyIn(w.t, w.rel, before, s.Table)
	}
}

// redo does a statement's ops, of any rows, again in both.
func (w *twins) redo() {
	x, s := w.manager.Next()-int64(w.read(6)), w.statement()
	var rows []api.Row
	for range w.read(4) {
		rows = append(rows, w.statement().Row)
	}
	if w.rel.Heap(s.Table) == nil {
		return
	}
	e := w.rel.Heap(s.Table).Redo(x, rel.Ops(s, rows))
	if want := w.heaps[s.Table].Redo(x, rel.Ops(s, rows)); e != want {
		w.t.Fatal(s, e, want)
	}
}

func (w *twins) vacuum() {
	s := w.snapshot()
	want := 0
	for _, h := range w.heaps {
		want += h.Vacuum(s)
	}
	if n := w.rel.Vacuum(s); n != want {
		w.t.Fatalf("Vacuum(%v): %d, not %d", s, n, want)
	}
}

// alike holds each table against its lone heap.
func (w *twins) alike() {
	views := []heap.View{{Snap: w.manager.Now()}, {Snap: at(far)}, w.view(), w.view()}
	for i, h := range w.heaps {
		if got, want := w.rel.Heap(i).Len(), h.Len(); got != want {
			w.t.Fatal(i, got, want)
		}
		for _, v := range views {
			has(w.t, w.rel, v, i, h.Scan(v)...)
		}
	}
}

func (w *twins) step() {
	switch kind := w.read(32); {
	case kind < 4:
		w.manager.Begin()
	case kind < 6:
		w.manager.Commit(w.view().Own)
	case kind < 7:
		w.manager.Abort(w.view().Own)
	case kind < 8:
		w.vacuum()
	case kind < 10:
		w.redo()
	default:
		w.run()
	}
}

// Whatever a store is asked, by whatever view, it does and tells what lone heaps do and tell.
func TestManyOddSteps(t *testing.T) {
	var told []api.Errno
	for seed := range uint32(60) {
		w := newTwins(t, mixed(seed, 1000))
		for len(w.bytes) > 0 {
			w.step()
			w.alike()
		}
		told = append(told, w.told...)
	}
	all(t, told)
}
