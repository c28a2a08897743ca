package rel_test

import (
	"fmt"
	"math"
	"slices"
	"strings"
	"testing"

	"carrier/api"
	"carrier/heap"
	"carrier/rel"
	"carrier/txn"
)

const (
	far  = math.MaxInt64
	deep = math.MinInt64
)

func at(m int64, open ...int64) api.Snapshot {
	return api.Snapshot{Max: m, Open: open}
}

func row(key int64, text string) api.Row {
	return api.Row{Key: key, Text: text}
}

func stmt(kind byte, table int, key int64, text string) rel.Stmt {
	return rel.Stmt{Kind: kind, Table: table, Row: row(key, text)}
}

// long is a text of n bytes.
func long(n int) string {
	return strings.Repeat("x", n)
}

// begin is the view of a transaction that begins just now.
func begin(t *testing.T, m *txn.Manager) heap.View {
	t.Helper()
	x, e := m.Begin()
	if e != api.OK {
		t.Fatal(e)
	}
	return heap.View{Snap: m.Now(), Own: x}
}

// ok: what was done must have told no error.
func ok(t *testing.T, e api.Errno) {
	t.Helper()
	if e != api.OK {
		t.Fatal(e)
	}
}

// tells: the statement must tell just that.
func tells(t *testing.T, r *rel.Rel, v heap.View, s rel.Stmt, want api.Errno, rows ...api.Row) {
	t.Helper()
	if l, e := r.Run(v, s); e != want || !slices.Equal(l, rows) {
		t.Fatalf("%v of %v: %v, %d, not %v, %d", s, v, l, e, rows, want)
	}
}

// done: the statement must have been done, and tell no row.
func done(t *testing.T, r *rel.Rel, v heap.View, kind byte, table int, key int64, text string) {
	t.Helper()
	tells(t, r, v, stmt(kind, table, key, text), api.OK)
}

// has: a view must see just these rows in a table.
func has(t *testing.T, r *rel.Rel, v heap.View, table int, rows ...api.Row) {
	t.Helper()
	tells(t, r, v, stmt(rel.Scan, table, 0, ""), api.OK, rows...)
	if l := r.Heap(table).Scan(v); !slices.Equal(l, rows) {
		t.Fatalf("table %d: the heap has %v, not %v", table, l, rows)
	}
}

// views are some who may ask: with snapshots of all kinds, and each for each of the first transactions.
func views() []heap.View {
	var l []heap.View
	for _, s := range []api.Snapshot{{}, at(1), at(3), at(4, 2), at(far), at(far, 3, 2, 2, deep), at(deep, 1), at(-1, 0, -7)} {
		for _, own := range []int64{deep, -1, 0, 1, 2, 3, 4, 5, 6, far} {
			l = append(l, heap.View{Snap: s, Own: own})
		}
	}
	return l
}

// twice is a store each of whose tables has two rows of each key: the first was born by 1, the second by 2,
// who are both committed.
func twice(t *testing.T, n int, keys ...int64) (*rel.Rel, *txn.Manager) {
	t.Helper()
	m := txn.New()
	r := rel.New(m, n)
	for i, text := range []string{"first", "second"} {
		x := int64(1 + i)
		ok(t, m.Load(3, []int64{x})) // the other one's rows are none
		for table := range n {
			for _, key := range keys {
				ok(t, r.Heap(table).Redo(x, []heap.Op{{Row: row(key, text)}}))
			}
		}
	}
	ok(t, m.Load(3, []int64{1, 2}))
	return r, m
}

// tables are texts of all that each table tells to anybody.
func tables(r *rel.Rel) []string {
	var l []string
	for i := range r.Tables() {
		h := r.Heap(i)
		s := fmt.Sprint(h.Len())
		for _, v := range views() {
			s += fmt.Sprint("\n", v, h.Scan(v))
		}
		l = append(l, s)
	}
	return l
}

// onlyIn: behind a call no table tells anything else than before, but that one (-1: none does).
func onlyIn(t *testing.T, r *rel.Rel, before []string, table int) {
	t.Helper()
	for i, now := range tables(r) {
		if i != table && now != before[i] {
			t.Fatalf("table %d was\n%s\nand is\n%s", i, before[i], now)
		}
	}
}

func TestOfTheDocument(t *testing.T) {
	l := rel.Ops(rel.Stmt{Kind: api.Insert, Row: row(5, "x")}, nil)
	if !slices.Equal(l, []heap.Op{{Gone: false, Row: row(5, "x")}}) {
		t.Error(l)
	}
}

func TestTables(t *testing.T) {
	for _, c := range []struct{ asked, want int }{
		{math.MinInt, 1}, {-1 << 32, 1}, {-2, 1}, {-1, 1}, {0, 1},
		{1, 1}, {2, 2}, {3, 3}, {4, 4},
		{5, 4}, {6, 4}, {256, 4}, {257, 4}, {1<<32 + 2, 4}, {math.MaxInt - 1, 4}, {math.MaxInt, 4},
	} {
		for _, m := range []*txn.Manager{nil, txn.New()} {
			r := rel.New(m, c.asked)
			if got := r.Tables(); got != c.want {
				t.Error(c.asked, got)
			}
			heaps(t, r, c.want)
		}
	}
}

// heaps: there must be as many, each one of its own, always the same one, and none beyond.
func heaps(t *testing.T, r *rel.Rel, n int) {
	t.Helper()
	for _, i := range []int{math.MinInt, -1 << 32, -5, -1, 0, 1, 2, 3, 4, 5, 41, 256, 1 << 32, 1<<32 + 1, math.MaxInt} {
		h := r.Heap(i)
		if there := i >= 0 && i < n; there != (h != nil) || h != r.Heap(i) {
			t.Error(n, i, h)
		}
		for j := range n {
			if h != nil && i != j && h == r.Heap(j) {
				t.Error("two tables are one", i, j)
			}
		}
	}
}

func TestNew(t *testing.T) {
	m := txn.New()
	r := rel.New(m, api.MaxTables)
	for i := range r.Tables() {
		for _, v := range append(views(), begin(t, m)) {
			has(t, r, v, i)
			tells(t, r, v, stmt(rel.Get, i, 0, ""), api.ErrNone)
		}
		if r.Heap(i).Len() != 0 {
			t.Error(i, r.Heap(i).Len())
		}
	}
	if n := r.Vacuum(at(far)); n != 0 {
		t.Error(n)
	}
}

// A table is what its heap is: what is done to the one is done to the other.
func TestHeapIsTheTable(t *testing.T) {
	m := txn.New()
	r := rel.New(m, 3)
	v := begin(t, m)
	for i := range 3 {
		before := tables(r)
		done(t, r, v, api.Insert, i, 5, "run")
		if got, there := r.Heap(i).Get(v, 5); got != row(5, "run") || !there {
			t.Error(i, got, there)
		}
		ok(t, r.Heap(i).Insert(v, row(6, "heap")))
		tells(t, r, v, stmt(rel.Get, i, 6, ""), api.OK, row(6, "heap"))
		ok(t, r.Heap(i).Delete(v, 5))
		tells(t, r, v, stmt(rel.Get, i, 5, ""), api.ErrNone)
		ok(t, r.Heap(i).Insert(v, row(7, long(api.MaxText+1)))) // a heap takes what Run doesn't
		has(t, r, v, i, row(6, "heap"), row(7, long(api.MaxText+1)))
		onlyIn(t, r, before, i)
	}
	ok(t, m.Commit(v.Own))
	for i := range 3 {
		ok(t, r.Heap(i).Redo(v.Own, []heap.Op{{Row: row(6, "redone")}, {Gone: true, Row: row(7, "")}}))
		has(t, r, begin(t, m), i, row(6, "redone"))
	}
}

// The manager is the one that New was handed: what ends there is ended in all tables.
func TestManagerIsTheOneHandedIn(t *testing.T) {
	m := txn.New()
	r := rel.New(m, 2)
	v := begin(t, m)
	done(t, r, v, api.Insert, 0, 5, "a")
	done(t, r, v, api.Insert, 1, 5, "b")
	all := heap.View{Snap: at(far)}
	has(t, r, all, 0)
	has(t, r, all, 1)
	ok(t, m.Commit(v.Own))
	has(t, r, all, 0, row(5, "a"))
	has(t, r, all, 1, row(5, "b"))
	tells(t, r, v, stmt(api.Delete, 1, 5, ""), api.ErrState)
	ok(t, m.Load(1, nil))
	has(t, r, all, 0)
	has(t, r, all, 1)
	other := txn.New()
	w := begin(t, other)
	tells(t, r, w, stmt(api.Insert, 0, 6, ""), api.ErrState) // open, but of another manager
	begin(t, m)
	done(t, r, w, api.Insert, 0, 6, "")
}

func TestStoresShareNothing(t *testing.T) {
	m := txn.New()
	a, b := rel.New(m, 2), rel.New(m, 2)
	v := begin(t, m)
	done(t, a, v, api.Insert, 0, 5, "a")
	has(t, b, v, 0)
	done(t, b, v, api.Insert, 0, 5, "b")
	has(t, a, v, 0, row(5, "a"))
	tells(t, a, v, stmt(api.Truncate, 0, 0, ""), api.OK, row(5, "a"))
	has(t, b, v, 0, row(5, "b"))
	ok(t, m.Abort(v.Own))
	if n := a.Vacuum(at(far)); n != 1 || b.Heap(0).Len() != 1 {
		t.Error(n, b.Heap(0).Len())
	}
}

func TestVacuum(t *testing.T) {
	m := txn.New()
	r := rel.New(m, 4)
	fill := begin(t, m)
	for i, n := range []int64{1, 2, 0, 5} {
		for key := range n {
			done(t, r, fill, api.Insert, i, key, "old")
		}
	}
	ok(t, m.Commit(fill.Own))
	lost := begin(t, m)
	done(t, r, lost, api.Insert, 2, 1, "lost")
	done(t, r, lost, api.Insert, 2, 2, "lost")
	done(t, r, lost, api.Insert, 0, 9, "lost")
	ok(t, m.Abort(lost.Own))
	reader, writer := begin(t, m), begin(t, m)
	done(t, r, writer, api.Update, 0, 0, "new")
	done(t, r, writer, api.Delete, 1, 1, "")
	tells(t, r, writer, stmt(api.Truncate, 3, 0, ""), api.OK, row(0, "old"), row(1, "old"), row(2, "old"), row(3, "old"), row(4, "old"))
	vacuums(t, r, api.Snapshot{}, 3, 2, 2, 0, 5) // the lost ones alone
	vacuums(t, r, m.Now(), 0, 2, 2, 0, 5)        // the writer is open
	ok(t, m.Commit(writer.Own))
	vacuums(t, r, reader.Snap, 0, 2, 2, 0, 5) // the reader sees the old ones yet
	has(t, r, reader, 1, row(0, "old"), row(1, "old"))
	vacuums(t, r, at(deep, 5), 0, 2, 2, 0, 5)
	vacuums(t, r, at(far, writer.Own, -1, 0, writer.Own), 0, 2, 2, 0, 5)
	vacuums(t, r, m.Now(), 7, 1, 1, 0, 0)
	vacuums(t, r, at(far), 0, 1, 1, 0, 0)
	has(t, r, begin(t, m), 0, row(0, "new"))
	has(t, r, begin(t, m), 1, row(0, "old"))
	has(t, r, begin(t, m), 3)
}

// vacuums: so many must go, and so many be left in each table.
func vacuums(t *testing.T, r *rel.Rel, s api.Snapshot, want int, left ...int) {
	t.Helper()
	if n := r.Vacuum(s); n != want {
		t.Errorf("Vacuum(%v): %d, not %d", s, n, want)
	}
	for i, n := range left {
		if got := r.Heap(i).Len(); got != n {
			t.Errorf("behind Vacuum(%v) table %d has %d, not %d", s, i, got, n)
		}
	}
}

// Each table's versions count, the first's and the last's, too.
func TestVacuumOfEachTable(t *testing.T) {
	for n := 1; n <= api.MaxTables; n++ {
		for i := range n {
			m := txn.New()
			r := rel.New(m, n)
			v := begin(t, m)
			for key := range int64(3) {
				done(t, r, v, api.Insert, i, key, "")
			}
			ok(t, m.Abort(v.Own))
			if gone := r.Vacuum(api.Snapshot{}); gone != 3 || r.Heap(i).Len() != 0 {
				t.Error(n, i, gone, r.Heap(i).Len())
			}
		}
	}
}

func TestNil(t *testing.T) {
	var r *rel.Rel
	if r.Tables() != 0 {
		t.Error(r.Tables())
	}
	for _, i := range []int{math.MinInt, -1, 0, 1, 3, 4, math.MaxInt} {
		if r.Heap(i) != nil {
			t.Error(i)
		}
	}
	for _, v := range views() {
		for kind := range 256 {
			for _, i := range []int{math.MinInt, -1, 0, 1, 4, math.MaxInt} {
				for _, text := range []string{"", long(api.MaxText), long(api.MaxText + 1)} {
					tells(t, r, v, stmt(byte(kind), i, 5, text), api.ErrNone)
				}
			}
		}
		if n := r.Vacuum(v.Snap); n != 0 {
			t.Error(n)
		}
	}
}

// Without a manager there are tables, but each heap tells that there is none.
func TestNilManager(t *testing.T) {
	for n := 1; n <= api.MaxTables; n++ {
		r := rel.New(nil, n)
		for _, v := range views() {
			for i := range n {
				for _, kind := range []byte{api.Insert, api.Update, api.Delete, api.Truncate, rel.Get} {
					tells(t, r, v, stmt(kind, i, 5, "a"), api.ErrNone)
				}
				has(t, r, v, i)
				tells(t, r, v, stmt(api.Insert, i, 5, long(api.MaxText+1)), api.ErrArg)
				tells(t, r, v, stmt(api.Update, i, 5, long(api.MaxText+1)), api.ErrArg)
				tells(t, r, v, stmt(api.Delete, i, 5, long(api.MaxText+1)), api.ErrNone)
				tells(t, r, v, stmt(7, i, 5, ""), api.ErrArg)
			}
			tells(t, r, v, stmt(rel.Scan, n, 5, ""), api.ErrArg)
			if gone := r.Vacuum(v.Snap); gone != 0 {
				t.Error(gone)
			}
		}
	}
}
