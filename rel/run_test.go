package rel_test

import (
	"math"
	"strings"
	"testing"

	"carrier/api"
	"carrier/heap"
	"carrier/rel"
	"carrier/txn"
)

// The keys of a store that was filled, as mine, which is open, finds them in the table that is asked:
//
//	5  seen
//	6  born by another one, which is open
//	7  seen, but another one, which is open, let it die
//	8  there is none
//
// In all other tables 5 is there alone, with another text, and 8 is.
const mine = 3

// filled is a store of as many tables as may be, of which one is filled so; torn tells whether its 7 is there.
func filled(t *testing.T, table int, torn bool) (*rel.Rel, heap.View) {
	t.Helper()
	m := txn.New()
	r := rel.New(m, api.MaxTables)
	first := begin(t, m)
	for i := range r.Tables() {
		if i != table {
			done(t, r, first, api.Insert, i, 5, "other")
			done(t, r, first, api.Insert, i, 8, "eight")
			continue
		}
		done(t, r, first, api.Insert, i, 5, "five")
		if torn {
			done(t, r, first, api.Insert, i, 7, "seven")
		}
	}
	ok(t, m.Commit(first.Own))
	other := begin(t, m)
	done(t, r, other, api.Insert, table, 6, "six")
	if torn {
		done(t, r, other, api.Delete, table, 7, "")
	}
	v := begin(t, m)
	if v.Own != mine {
		t.Fatal(v)
	}
	return r, v
}

// answers are the letters that stand for them.
var answers = map[byte]api.Errno{'.': api.OK, 'A': api.ErrArg, 'N': api.ErrNone, 'D': api.ErrDup, 'C': api.ErrConflict, 'S': api.ErrState}

// What each Kind tells, of keys 5 to 8, in each table; and ErrState, of those that change something, of who isn't open.
var told = []struct {
	kind   byte
	keys   string // of who is open
	closed string // of who isn't
	long   string // of a Text that is longer than MaxText
}{
	{api.Insert, "DCD.", "SSSS", "AAAA"},
	{api.Update, ".NCN", "SSSS", "AAAA"},
	{api.Delete, ".NCN", "SSSS", ".NCN"},
	{api.Truncate, "CCCC", "SSSS", "CCCC"},
	{rel.Get, ".N.N", ".N.N", ".N.N"},
	{rel.Scan, "....", "....", "...."},
}

// rows are those that a statement of a Kind tells, of a key, where it tells no error.
func rows(kind byte, key int64) []api.Row {
	switch {
	case kind == rel.Scan:
		return []api.Row{row(5, "five"), row(7, "seven")}
	case kind == rel.Get && key == 5:
		return []api.Row{row(5, "five")}
	case kind == rel.Get:
		return []api.Row{row(7, "seven")}
	}
	return nil
}

// writes tells whether a Kind changes something, where it tells no error.
func writes(kind byte) bool {
	return kind >= api.Insert && kind <= api.Truncate
}

func TestRun(t *testing.T) {
	texts := []string{"", "a", "\x00\xff", long(api.MaxText), strings.Repeat("ä", api.MaxText/2)}
	tooLong := []string{long(api.MaxText + 1), strings.Repeat("ä", api.MaxText/2) + "b", long(1000), long(256 + 1), long(1 << 16)}
	for table := range api.MaxTables {
		for _, c := range told {
			for i := range c.keys {
				for _, text := range texts {
					runs(t, stmt(c.kind, table, int64(5+i), text), c.keys[i], c.closed[i])
				}
				for _, text := range tooLong {
					closed := c.closed[i]
					if c.long[i] == 'A' {
						closed = 'A' // ahead of ErrState
					}
					runs(t, stmt(c.kind, table, int64(5+i), text), c.long[i], closed)
				}
			}
		}
	}
}

// runs: a statement must tell that of one who is open, and that of others.
func runs(t *testing.T, s rel.Stmt, open, closed byte) {
	t.Helper()
	r, v := filled(t, s.Table, true)
	before := tables(r)
	for _, own := range []int64{deep, -mine, 0, 4, 5, far} {
		lone := heap.View{Snap: v.Snap, Own: own}
		if closed == '.' {
			tells(t, r, lone, s, api.OK, rows(s.Kind, s.Row.Key)...)
		} else {
			tells(t, r, lone, s, answers[closed])
		}
	}
	onlyIn(t, r, before, -1)
	if open == '.' {
		tells(t, r, v, s, api.OK, rows(s.Kind, s.Row.Key)...)
	} else {
		tells(t, r, v, s, answers[open])
	}
	if open != '.' || !writes(s.Kind) {
		onlyIn(t, r, before, -1)
		return
	}
	onlyIn(t, r, before, s.Table)
	changed(t, r, v, s)
}

// changed: a statement must have left just that.
func changed(t *testing.T, r *rel.Rel, v heap.View, s rel.Stmt) {
	t.Helper()
	switch s.Kind {
	case api.Insert:
		has(t, r, v, s.Table, row(5, "five"), row(7, "seven"), s.Row)
	case api.Update:
		has(t, r, v, s.Table, s.Row, row(7, "seven"))
	case api.Delete:
		has(t, r, v, s.Table, row(7, "seven"))
	}
}

func TestTruncate(t *testing.T) {
	for table := range api.MaxTables {
		for _, text := range []string{"", long(api.MaxText), long(api.MaxText + 1)} {
			r, v := filled(t, table, false)
			done(t, r, v, api.Insert, table, deep, "least")
			done(t, r, v, api.Insert, table, far, "most")
			done(t, r, v, api.Insert, table, -1, "")
			before := tables(r)
			tells(t, r, v, stmt(api.Truncate, table, 5, text), api.OK, row(deep, "least"), row(-1, ""), row(5, "five"), row(far, "most"))
			onlyIn(t, r, before, table)
			has(t, r, v, table)
			tells(t, r, v, stmt(api.Truncate, table, 5, text), api.OK)
			has(t, r, heap.View{Snap: v.Snap}, table, row(5, "five"))
		}
	}
}

// wrong are Tables that there aren't, where there are n.
func wrong(n int) []int {
	return []int{math.MinInt, math.MinInt + 1, -1 << 32, -256, -2, -1, n, n + 1, api.MaxTables, 5, 41, 256, 1 << 32, 1<<32 + 1, math.MaxInt - 1, math.MaxInt}
}

// A Kind, or a Table, that there isn't is told ahead of all else, and changes nothing.
func TestNoSuchKindOrTable(t *testing.T) {
	for n := 1; n <= api.MaxTables; n++ {
		m := txn.New()
		r := rel.New(m, n)
		v := begin(t, m)
		for i := range n {
			done(t, r, v, api.Insert, i, 5, "five")
		}
		views := []heap.View{v, {}, {Snap: v.Snap}, {Snap: at(far), Own: v.Own + 1}, {Snap: at(deep, 0), Own: deep}}
		before := tables(r)
		for kind := range 256 {
			none := kind < api.Insert || kind > rel.Scan
			for _, table := range append(wrong(n), 0, n-1) {
				if there := table >= 0 && table < n; there && !none {
					continue
				}
				for _, key := range []int64{deep, 5, 6, far} {
					for _, text := range []string{"", long(api.MaxText), long(api.MaxText + 1)} {
						for _, v := range views {
							tells(t, r, v, stmt(byte(kind), table, key, text), api.ErrArg)
						}
					}
				}
			}
		}
		onlyIn(t, r, before, -1)
	}
}

// A row's length is that of its text's bytes, not that of its letters.
func TestLongestText(t *testing.T) {
	m := txn.New()
	r := rel.New(m, 1)
	v := begin(t, m)
	var want []api.Row
	for n := range 2*api.MaxText + 1 {
		s := stmt(api.Insert, 0, int64(n), long(n))
		if n > api.MaxText {
			tells(t, r, v, s, api.ErrArg)
			s.Row.Key, s.Kind = 0, api.Update
			tells(t, r, v, s, api.ErrArg)
			continue
		}
		tells(t, r, v, s, api.OK)
		s.Kind = api.Update
		tells(t, r, v, s, api.OK)
		want = append(want, s.Row)
	}
	has(t, r, v, 0, want...)
	letters := strings.Repeat("ä", api.MaxText/2+1)
	tells(t, r, v, stmt(api.Update, 0, 0, letters), api.ErrArg)
	tells(t, r, v, stmt(api.Update, 0, 0, letters[2:]), api.OK)
	tells(t, r, v, stmt(rel.Get, 0, 0, ""), api.OK, row(0, letters[2:]))
}

func TestKeysOfAllKinds(t *testing.T) {
	m := txn.New()
	r := rel.New(m, 2)
	v := begin(t, m)
	keys := []int64{deep, deep + 1, -1 << 32, -1, 0, 1, 1 << 32, far - 1, far}
	for _, key := range keys {
		done(t, r, v, api.Insert, 1, key, "a")
		tells(t, r, v, stmt(api.Insert, 1, key, "b"), api.ErrDup)
		tells(t, r, v, stmt(rel.Get, 0, key, ""), api.ErrNone)
	}
	for i, key := range keys {
		done(t, r, v, api.Update, 1, key, "b")
		tells(t, r, v, stmt(rel.Get, 1, key, ""), api.OK, row(key, "b"))
		done(t, r, v, api.Delete, 1, key, "")
		tells(t, r, v, stmt(rel.Get, 1, key, ""), api.ErrNone)
		tells(t, r, v, stmt(api.Update, 1, key, "c"), api.ErrNone)
		if l, e := r.Run(v, stmt(rel.Scan, 1, key, "")); len(l) != len(keys)-1-i || e != api.OK {
			t.Fatal(l, e)
		}
	}
}

// Of several rows of one key Get tells the first one alone, and Scan all.
func TestSeveralOfOneKey(t *testing.T) {
	for table := range 2 {
		r, m := twice(t, 2, 5, -5)
		v := begin(t, m)
		has(t, r, v, table, row(-5, "first"), row(-5, "second"), row(5, "first"), row(5, "second"))
		tells(t, r, v, stmt(rel.Get, table, 5, ""), api.OK, row(5, "first"))
		tells(t, r, v, stmt(api.Insert, table, 5, "new"), api.ErrDup)
		done(t, r, v, api.Update, table, 5, "new")
		done(t, r, v, api.Delete, table, -5, "")
		has(t, r, v, table, row(-5, "second"), row(5, "second"), row(5, "new"))
		tells(t, r, v, stmt(rel.Get, table, -5, ""), api.OK, row(-5, "second"))
		tells(t, r, v, stmt(api.Truncate, table, 0, ""), api.OK, row(-5, "second"), row(5, "second"), row(5, "new"))
		has(t, r, v, table)
	}
}

// One transaction does the same in all tables: each has its own rows, its own conflicts.
func TestTablesSideBySide(t *testing.T) {
	m := txn.New()
	r := rel.New(m, 4)
	first, second := begin(t, m), begin(t, m)
	for i := range 4 {
		done(t, r, first, api.Insert, i, int64(i), "first")
		done(t, r, second, api.Insert, i, int64(i+1)%4, "second")
	}
	for i := range 4 {
		key := int64(i)
		has(t, r, first, i, row(key, "first"))
		tells(t, r, second, stmt(api.Insert, i, key, ""), api.ErrConflict)
		tells(t, r, first, stmt(api.Insert, i, (key+1)%4, ""), api.ErrConflict)
		done(t, r, first, api.Insert, i, (key+2)%4, "free")
		done(t, r, first, api.Delete, i, (key+2)%4, "")
	}
	ok(t, m.Commit(first.Own))
	ok(t, m.Abort(second.Own))
	for i := range 4 {
		has(t, r, begin(t, m), i, row(int64(i), "first"))
	}
}
