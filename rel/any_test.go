package rel_test

import (
	"math"
	"testing"

	"carrier/api"
	"carrier/heap"
	"carrier/rel"
	"carrier/txn"
)

// odd are rows of all kinds.
func odd() []api.Row {
	var l []api.Row
	for i, key := range []int64{deep, deep + 1, -1 << 32, -1, 0, 1, 5, 6, 7, 8, 1 << 32, far - 1, far} {
		l = append(l, row(key, []string{"", "a", long(api.MaxText), long(api.MaxText + 1), "\xff\x00"}[i%5]))
	}
	return append(l, row(5, long(1<<16)))
}

// oddViews are of whoever may be open, and of whoever can't be, with snapshots of all kinds.
func oddViews() []heap.View {
	endless := at(far)
	for i := range int64(100) {
		endless.Open = append(endless.Open, 50-i, i, i)
	}
	l := []heap.View{{Snap: endless, Own: mine}, {Snap: at(deep, deep, far), Own: api.MaxTxid}, {Snap: at(far, 0), Own: 1 << 32}}
	return append(l, views()...)
}

// stores are those of all kinds, by names.
func stores(t *testing.T) map[string]*rel.Rel {
	several, m := twice(t, 4, deep, -1, 0, 5, 6, far)
	for range api.MaxOpen {
		begin(t, m)
	}
	loaded := func(next int64) *rel.Rel {
		m := txn.New()
		r := rel.New(m, 2)
		v := begin(t, m)
		for _, one := range odd()[:3] {
			tells(t, r, v, rel.Stmt{Kind: api.Insert, Row: one}, api.OK)
		}
		ok(t, m.Load(next, nil))
		return r
	}
	one, _ := filled(t, 0, true)
	last, _ := filled(t, api.MaxTables-1, false)
	return map[string]*rel.Rel{
		"nil": nil, "its zero value": {}, "without a manager": rel.New(nil, 3), "below 1": rel.New(begun(t), math.MinInt),
		"beyond MaxTables": rel.New(begun(t), math.MaxInt), "none has begun": rel.New(txn.New(), 2),
		"the first is filled": one, "the last is filled": last, "several of each key": several,
		"nobody ever was": loaded(1), "they were aborted": loaded(41), "no number is left": loaded(api.MaxTxid),
	}
}

// begun is a manager of whom as many are open as may be, behind 1, which was committed, and 2, which was aborted.
func begun(t *testing.T) *txn.Manager {
	m := txn.New()
	ok(t, m.Commit(begin(t, m).Own))
	ok(t, m.Abort(begin(t, m).Own))
	for range api.MaxOpen {
		begin(t, m)
	}
	return m
}

// Whatever it is asked, a store tells one of its errors, and no row beside it.
func TestAnyStatement(t *testing.T) {
	rows := odd()
	for name, r := range stores(t) {
		for i, v := range oddViews() {
			for kind := range 256 {
				for j, table := range append(wrong(r.Tables()), 0, 1, 2, 3) {
					s := rel.Stmt{Kind: byte(kind), Table: table, Row: rows[(i+j+kind)%len(rows)]}
					l, e := r.Run(v, s)
					if e < api.OK || e > api.ErrState || e == api.ErrForm || e == api.ErrShort || e != api.OK && l != nil {
						t.Fatal(name, v, s, l, e)
					}
				}
			}
			r.Vacuum(v.Snap)
		}
	}
}

// Each row, of each Kind and in each table, of each view.
func TestAnyRow(t *testing.T) {
	rows := odd()
	for _, v := range oddViews() {
		for name, r := range stores(t) {
			for kind := range byte(8) {
				for table := -1; table <= api.MaxTables; table++ {
					for _, one := range rows {
						anyRow(t, name, r, v, rel.Stmt{Kind: kind, Table: table, Row: one})
					}
				}
			}
			if n, gone := versions(r), r.Vacuum(v.Snap); n-gone != versions(r) {
				t.Fatal(name, v, n, gone)
			}
		}
	}
}

func anyRow(t *testing.T, name string, r *rel.Rel, v heap.View, s rel.Stmt) {
	t.Helper()
	rows, e := r.Run(v, s)
	if e != api.OK && rows != nil {
		t.Fatal(name, v, s, rows, e)
	}
	if s.Kind == rel.Get && e == api.OK && (len(rows) != 1 || rows[0].Key != s.Row.Key) {
		t.Fatal(name, v, s, rows)
	}
	if n := len(rel.Ops(s, rows)); n > max(1, len(rows)) {
		t.Fatal(name, v, s, n)
	}
}

// versions is how many there are, in all tables.
func versions(r *rel.Rel) int {
	n := 0
	for i := range r.Tables() {
		n += r.Heap(i).Len()
	}
	return n
}
