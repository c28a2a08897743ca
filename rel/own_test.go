package rel_test

import (
	"slices"
	"testing"

	"carrier/api"
	"carrier/heap"
	"carrier/rel"
	"carrier/txn"
)

// shop is a store with rows 3, 5 and 7 in its second table, and the view of one who is open.
func shop(t *testing.T) (*rel.Rel, *txn.Manager, heap.View) {
	t.Helper()
	m := txn.New()
	r := rel.New(m, 2)
	v := begin(t, m)
	for _, one := range []api.Row{row(7, "c"), row(3, "a"), row(5, "b")} {
		tells(t, r, v, rel.Stmt{Kind: api.Insert, Table: 1, Row: one}, api.OK)
	}
	ok(t, m.Commit(v.Own))
	return r, m, begin(t, m)
}

// run is the rows of a statement that must tell no error.
func run(t *testing.T, r *rel.Rel, v heap.View, kind byte, key int64) []api.Row {
	t.Helper()
	rows, e := r.Run(v, stmt(kind, 1, key, ""))
	ok(t, e)
	return rows
}

func TestAnswersAreTheCallers(t *testing.T) {
	r, _, v := shop(t)
	want := []api.Row{row(3, "a"), row(5, "b"), row(7, "c")}
	first, second := run(t, r, v, rel.Scan, 0), run(t, r, v, rel.Scan, 0)
	clear(first[:cap(first)])
	if !slices.Equal(second, want) {
		t.Error("two answers share", second)
	}
	has(t, r, v, 1, want...)
	got, again := run(t, r, v, rel.Get, 5), run(t, r, v, rel.Get, 5)
	clear(got[:cap(got)])
	if !slices.Equal(again, want[1:2]) {
		t.Error("two answers share", again)
	}
	has(t, r, v, 1, want...)
	third := run(t, r, v, rel.Scan, 0)
	gone := run(t, r, v, api.Truncate, 0)
	clear(gone[:cap(gone)])
	if !slices.Equal(third, want) || !slices.Equal(second, want) {
		t.Error("two answers share", second, third)
	}
	has(t, r, heap.View{Snap: v.Snap}, 1, want...)
}

// What was answered stays as it was, whatever the store does.
func TestAnswersStay(t *testing.T) {
	r, m, v := shop(t)
	want := []api.Row{row(3, "a"), row(5, "b"), row(7, "c")}
	scanned, got, gone := run(t, r, v, rel.Scan, 0), run(t, r, v, rel.Get, 5), run(t, r, v, api.Truncate, 0)
	ops := rel.Ops(stmt(api.Truncate, 1, 0, ""), gone)
	done(t, r, v, api.Insert, 1, 5, "d")
	done(t, r, v, api.Update, 1, 5, "e")
	ok(t, m.Commit(v.Own))
	r.Vacuum(m.Now())
	ok(t, r.Heap(1).Redo(v.Own, ops))
	if !slices.Equal(scanned, want) || !slices.Equal(got, want[1:2]) || !slices.Equal(gone, want) {
		t.Error(scanned, got, gone)
	}
}

// Neither a view's Open itself is written into, nor what it has room for behind it; and it isn't kept.
func TestViewsStay(t *testing.T) {
	whole := []int64{1, 2, 2, 5, -1, far, 0, 3}
	was := slices.Clone(whole)
	for n := range len(whole) + 1 {
		r, _, v := shop(t)
		v.Snap.Open = whole[:n]
		for kind := range byte(8) {
			r.Run(v, stmt(kind, 1, 5, "d"))
		}
		r.Vacuum(v.Snap)
	}
	if !slices.Equal(whole, was) {
		t.Error(whole)
	}
	r, _, v := shop(t)
	open := []int64{9}
	v.Snap.Open = open
	done(t, r, v, api.Insert, 1, 9, "d")
	open[0] = 1
	has(t, r, v, 1, row(9, "d"))
	open[0] = 9
	has(t, r, v, 1, row(3, "a"), row(5, "b"), row(7, "c"), row(9, "d"))
}

// Ops writes into no rows, has none of their memory, and two of its answers have none of one another's.
func TestOpsShareNothing(t *testing.T) {
	for _, kind := range []byte{api.Insert, api.Update, api.Delete, api.Truncate, rel.Get, rel.Scan} {
		whole := []api.Row{row(5, "a"), row(3, "b"), row(5, "c"), row(9, "behind"), row(8, "behind")}
		was := slices.Clone(whole)
		s := stmt(kind, 1, 7, "own")
		first := rel.Ops(s, whole[:3])
		want := slices.Clone(first)
		second := rel.Ops(s, whole[:3])
		clear(second[:cap(second)])
		if !slices.Equal(first, want) || !slices.Equal(whole, was) {
			t.Error(kind, first, whole)
		}
		third := append(rel.Ops(s, whole[:3]), heap.Op{}, heap.Op{})
		clear(whole)
		if !slices.Equal(first, want) || !slices.Equal(third[:len(want)], want) {
			t.Error(kind, first, third)
		}
	}
}

// A store that is asked changes nothing, its manager neither.
func TestAskingChangesNothing(t *testing.T) {
	r, m, v := shop(t)
	now, before := m.Now(), tables(r)
	for range 3 {
		for key := range int64(10) {
			r.Run(v, stmt(rel.Get, 1, key, "x"))
			r.Run(v, stmt(rel.Scan, 1, key, "x"))
		}
		r.Tables()
		r.Heap(1)
		onlyIn(t, r, before, -1)
	}
	if then := m.Now(); then.Max != now.Max || !slices.Equal(then.Open, now.Open) {
		t.Error(now, then)
	}
}
