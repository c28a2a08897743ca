package heap_test

import (
	"slices"
	"testing"

	"carrier/api"
	"carrier/heap"
	"carrier/txn"
)

// Neither a view's Open itself is written into, nor what it has room for behind it; and it isn't kept.
func TestViewsStay(t *testing.T) {
	whole := []int64{11, 2, 2, 5, -1, far, 0, 3}
	was := slices.Clone(whole)
	h, _ := lay(t, one{5, "c-", "a"}, one{6, "d-", "b"}, one{7, "hd", "c"})
	for n := range len(whole) + 1 {
		v := heap.View{Snap: at(12, whole[:n]...), Own: 11}
		h.Get(v, 5)
		h.Scan(v)
		h.Insert(v, row(9, "d"))
		h.Update(v, row(5, "e"))
		h.Delete(v, 9)
		h.Vacuum(v.Snap)
		h.Truncate(v)
	}
	if !slices.Equal(whole, was) {
		t.Error(whole)
	}
	h, _ = lay(t, one{5, "c-", "a"}, one{6, "h-", "b"})
	open := []int64{2}
	v := heap.View{Snap: at(12, open...), Own: 11}
	ok(t, h.Insert(v, row(7, "c")))
	open[0] = 1
	sees(t, h, v, row(6, "b"), row(7, "c"))
	open[0] = 2
	sees(t, h, v, row(5, "a"), row(7, "c"))
}

func TestRedoKeepsNotWhatItWasHanded(t *testing.T) {
	h, _ := lay(t, one{5, "c-", "a"})
	whole := []heap.Op{is(row(6, "b")), gone(5), is(row(7, "c")), is(row(8, "d")), gone(6)}
	was := slices.Clone(whole)
	ok(t, h.Redo(4, whole[:3]))
	if !slices.Equal(whole, was) {
		t.Error(whole)
	}
	for i := range whole {
		whole[i] = is(row(6, "written over"))
	}
	as(t, h, one{5, "cd", "a"}, one{6, "d-", "b"}, one{7, "d-", "c"})
}

func TestAnswersAreTheCallers(t *testing.T) {
	versions := []one{{5, "c-", "a"}, {6, "d-", "b"}, {7, "o-", "c"}, {3, "c-", "d"}}
	want := []api.Row{row(3, "d"), row(5, "a"), row(6, "b"), row(7, "c")}
	h, _ := lay(t, versions...)
	first, second := h.Scan(mine()), h.Scan(mine())
	clear(first[:cap(first)])
	if !slices.Equal(second, want) {
		t.Error("two answers share", second)
	}
	as(t, h, versions...)
	_ = append(second[:2], row(9, "x"))
	as(t, h, versions...)

	third := h.Scan(mine())
	rows, e := h.Truncate(mine())
	ok(t, e)
	clear(rows[:cap(rows)])
	if !slices.Equal(third, want) {
		t.Error("two answers share", third)
	}
	as(t, h, one{5, "co", "a"}, one{6, "do", "b"}, one{7, "oo", "c"}, one{3, "co", "d"})
}

// What was answered stays as it was, whatever the heap does.
func TestAnswersStay(t *testing.T) {
	h, m := lay(t, one{5, "c-", "a"}, one{6, "d-", "b"}, one{5, "e-", "c"})
	want := []api.Row{row(5, "a"), row(5, "c"), row(6, "b")}
	scanned := h.Scan(mine())
	got, _ := h.Get(mine(), 5)
	rows, e := h.Truncate(mine())
	ok(t, e)
	ok(t, h.Insert(mine(), row(5, "d")))
	ok(t, h.Update(mine(), row(5, "e")))
	ok(t, m.Commit(11))
	h.Vacuum(at(far))
	ok(t, h.Redo(11, []heap.Op{is(row(5, "f")), is(row(6, "g"))}))
	if got != want[0] || !slices.Equal(scanned, want) || !slices.Equal(rows, want) {
		t.Error(got, scanned, rows)
	}
}

// The manager is the one that New was handed: what ends there is ended here.
func TestManagerIsTheOneHandedIn(t *testing.T) {
	m := txn.New()
	h, other := heap.New(m), heap.New(m)
	v := begin(t, m)
	ok(t, h.Insert(v, row(5, "a")))
	ok(t, other.Insert(v, row(5, "b")))
	all := heap.View{Snap: at(far)}
	sees(t, h, all)
	sees(t, other, all)
	ok(t, m.Commit(v.Own))
	sees(t, h, all, row(5, "a"))
	sees(t, other, all, row(5, "b"))
	ok(t, m.Load(2, nil))
	sees(t, h, all)
	sees(t, other, all)
	ok(t, m.Load(2, []int64{1}))
	sees(t, h, all, row(5, "a"))
	ok(t, m.Load(1, nil))
	sees(t, h, all)
	if n := h.Vacuum(all.Snap); n != 0 || h.Len() != 1 { // who never began isn't aborted
		t.Error(n, h.Len())
	}
}

func TestHeapsShareNothing(t *testing.T) {
	m := txn.New()
	a, b := heap.New(m), heap.New(m)
	v := begin(t, m)
	ok(t, a.Insert(v, row(5, "a")))
	sees(t, b, v)
	ok(t, b.Insert(v, row(5, "b")))
	ok(t, a.Delete(v, 5))
	sees(t, b, v, row(5, "b"))
	sees(t, a, v)
	ok(t, m.Abort(v.Own))
	if n := a.Vacuum(api.Snapshot{}); n != 1 || a.Len() != 0 || b.Len() != 1 {
		t.Error(n, a.Len(), b.Len())
	}
}

// A heap that is asked changes nothing, its manager neither.
func TestAskingChangesNothing(t *testing.T) {
	h, m := lay(t, one{5, "c-", "a"}, one{5, "hx", "b"}, one{3, "o-", "c"}, one{1, "ad", "d"})
	now := m.Now()
	first := told(h)
	for range 3 {
		if again := told(h); again != first {
			t.Fatal(unlike(again, first))
		}
	}
	if then := m.Now(); then.Max != now.Max || !slices.Equal(then.Open, now.Open) {
		t.Error(now, then)
	}
}
