package rel_test

import (
	"fmt"
	"slices"
	"testing"

	"carrier/api"
	"carrier/heap"
	"carrier/rel"
	"carrier/txn"
)

// lists are rows that a statement may have told: of all lengths, and with one key several times.
func lists() [][]api.Row {
	many := []api.Row{}
	for i := range int64(100) {
		many = append(many, row(i%7-3, fmt.Sprint("t", i)))
	}
	return [][]api.Row{
		nil,
		{},
		{row(5, "a")},
		{row(0, "")},
		{row(deep, "least"), row(-1, ""), row(far, "most")},
		{row(7, "falls"), row(5, "a"), row(5, "b"), row(5, "a"), row(-7, long(1000))},
		many,
	}
}

// ops must be just these, of any Table.
func ops(t *testing.T, s rel.Stmt, rows []api.Row, want []heap.Op) {
	t.Helper()
	for _, table := range append(wrong(2), 0, 1) {
		s.Table = table
		if l := rel.Ops(s, rows); !slices.Equal(l, want) {
			t.Fatalf("%v, %v: %v, not %v", s, rows, l, want)
		}
	}
}

func TestOps(t *testing.T) {
	for _, r := range []api.Row{{}, row(5, "a"), row(deep, long(api.MaxText)), row(far, long(api.MaxText+1)), row(-1, "\x00\xff")} {
		for _, l := range lists() {
			for kind := range 256 {
				s := rel.Stmt{Kind: byte(kind), Row: r}
				switch kind {
				case api.Insert, api.Update:
					ops(t, s, l, []heap.Op{{Gone: false, Row: r}})
				case api.Delete: // the Text goes with it, as it was handed in
					ops(t, s, l, []heap.Op{{Gone: true, Row: r}})
				case api.Truncate:
					var all []heap.Op
					for _, one := range l {
						all = append(all, heap.Op{Gone: true, Row: one})
					}
					ops(t, s, l, all)
				default: // Get and Scan, too
					ops(t, s, l, nil)
				}
			}
		}
	}
}

// replayed runs a transaction's statements in one store, and does their ops again, table by table, in another
// one whose tables have what they had; behind the commit both must have the same rows.
func replayed(t *testing.T, statements []rel.Stmt) {
	t.Helper()
	m, n := txn.New(), txn.New()
	r, again := rel.New(m, 3), rel.New(n, 3)
	v, w := begin(t, m), begin(t, n)
	for i := range 2 {
		for key := range int64(5) {
			done(t, r, v, api.Insert, i, key, fmt.Sprint("old", i, key))
			done(t, again, w, api.Insert, i, key, fmt.Sprint("old", i, key))
		}
	}
	ok(t, m.Commit(v.Own))
	ok(t, n.Commit(w.Own))
	v, w = begin(t, m), begin(t, n)
	ok(t, n.Commit(w.Own))
	reader := heap.View{Snap: at(2)}
	for _, s := range statements {
		rows, e := r.Run(v, s)
		ok(t, e)
		before := tables(again)
		ok(t, again.Heap(s.Table).Redo(w.Own, rel.Ops(s, rows)))
		onlyIn(t, again, before, s.Table)
		for i := range 3 {
			rows, e := r.Run(v, stmt(rel.Scan, i, 0, ""))
			ok(t, e)
			has(t, again, heap.View{Snap: n.Now()}, i, rows...)
		}
	}
	ok(t, m.Commit(v.Own))
	for i := range 3 {
		has(t, again, heap.View{Snap: n.Now()}, i, r.Heap(i).Scan(heap.View{Snap: m.Now()})...)
		has(t, again, reader, i, r.Heap(i).Scan(reader)...)
	}
}

func TestOpsAreWhatWasDone(t *testing.T) {
	for i, statements := range [][]rel.Stmt{
		{},
		{stmt(api.Insert, 0, 9, "new")},
		{stmt(api.Update, 1, 3, "new")},
		{stmt(api.Update, 1, 3, "old13")}, // with the text that it had
		{stmt(api.Delete, 0, 3, "whatever")},
		{stmt(api.Truncate, 1, 3, "whatever")},
		{stmt(api.Truncate, 2, 3, "")}, // there are none
		{stmt(rel.Get, 0, 3, "new"), stmt(rel.Scan, 1, 3, "new")},
		{stmt(api.Delete, 0, 3, ""), stmt(api.Insert, 0, 3, "again"), stmt(api.Update, 0, 3, ""), stmt(api.Delete, 0, 3, "")},
		{stmt(api.Truncate, 0, 0, ""), stmt(api.Insert, 0, 3, "again"), stmt(api.Insert, 0, far, "most"), stmt(api.Truncate, 0, 0, "")},
		{stmt(api.Insert, 2, deep, ""), stmt(api.Update, 2, deep, long(api.MaxText)), stmt(rel.Scan, 2, 0, ""), stmt(api.Insert, 0, deep, "a"), stmt(api.Truncate, 2, 0, "")},
	} {
		t.Run(fmt.Sprint(i), func(t *testing.T) { replayed(t, statements) })
	}
}

func TestOpsOfManyStatements(t *testing.T) {
	for seed := range uint32(12) {
		p := mixed(seed, 400)
		m := txn.New()
		r := rel.New(m, 3)
		v := begin(t, m)
		for i := range 2 { // as replayed has them
			for key := range int64(5) {
				done(t, r, v, api.Insert, i, key, "")
			}
		}
		var statements []rel.Stmt
		for i := 0; i+3 < len(p); i += 4 {
			s := stmt(1+p[i]%6, int(p[i+1]%3), int64(p[i+2]%8), long(int(p[i+3])%(api.MaxText+1)))
			if _, e := r.Run(v, s); e == api.OK {
				statements = append(statements, s)
			}
		}
		replayed(t, statements)
	}
}

// Several rows of one key that went at once go again, each one.
func TestOpsOfATruncateOfOneKey(t *testing.T) {
	r, m := twice(t, 1, 5, 7)
	s := stmt(api.Truncate, 0, 5, "")
	rows, e := r.Run(begin(t, m), s)
	ok(t, e)
	gone := func(key int64, text string) heap.Op { return heap.Op{Gone: true, Row: row(key, text)} }
	ops(t, s, rows, []heap.Op{gone(5, "first"), gone(5, "second"), gone(7, "first"), gone(7, "second")})
	r, m = twice(t, 1, 5, 7)
	x := begin(t, m)
	ok(t, m.Commit(x.Own))
	ok(t, r.Heap(0).Redo(x.Own, rel.Ops(s, rows)))
	has(t, r, begin(t, m), 0)
	has(t, r, x, 0)
	has(t, r, heap.View{Snap: x.Snap}, 0, row(5, "first"), row(5, "second"), row(7, "first"), row(7, "second"))
}

// mixed is n bytes of all kinds.
func mixed(seed uint32, n int) []byte {
	p := make([]byte, n)
	x := seed
	for i := range p {
		x = x*1664525 + 1013904223
		p[i] = byte(x >> 24)
	}
	return p
}
