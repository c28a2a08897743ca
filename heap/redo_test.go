package heap_test

import (
	"fmt"
	"slices"
	"strings"
	"testing"

	"carrier/api"
	"carrier/heap"
	"carrier/txn"
)

func is(r api.Row) heap.Op {
	return heap.Op{Row: r}
}

func gone(key int64) heap.Op {
	return heap.Op{Gone: true, Row: row(key, "whatever")}
}

// dies tells which versions a Redo lets die.
const dies = `
	........
	yy...yyy
	yy...yyy
	yy...yyy
	........
	........
	........
`

func TestRedoGone(t *testing.T) {
	// deaths: -ochlxan
	table(t, dies, func(t *testing.T, by string, letter byte) {
		h, _ := lay(t, one{5, by, "a"})
		ok(t, h.Redo(number['d'], []heap.Op{gone(5)}))
		if letter == 'y' {
			by = by[:1] + "d"
		}
		as(t, h, one{5, by, "a"})
	})
}

func TestRedoRow(t *testing.T) {
	table(t, dies, func(t *testing.T, by string, letter byte) {
		h, _ := lay(t, one{5, by, "a"})
		ok(t, h.Redo(number['d'], []heap.Op{is(row(5, "new"))}))
		if letter == 'y' {
			by = by[:1] + "d"
		}
		as(t, h, one{5, by, "a"}, one{5, "d-", "new"})
	})
}

func TestRedoByAnyCommitted(t *testing.T) {
	for _, by := range "chdefl" {
		h, _ := lay(t, one{5, "b-", "a"}, one{6, "h-", "b"})
		ok(t, h.Redo(number[byte(by)], []heap.Op{is(row(7, "c")), gone(6), gone(3)}))
		as(t, h, one{5, "b-", "a"}, one{6, "h" + string(by), "b"}, one{7, string(by) + "-", "c"})
	}
}

// Others' keys stay, and so do those of the same transaction.
func TestRedoOfManyKeys(t *testing.T) {
	h, m := lay(t, one{5, "c-", "a"}, one{deep, "h-", "b"}, one{3, "l-", "c"}, one{7, "x-", "d"}, one{1, "ch", "e"}, one{6, "e-", "f"})
	ok(t, h.Redo(4, []heap.Op{is(row(far, "most")), gone(5), is(row(deep, "least")), gone(9), gone(7), is(row(1, "again")), is(row(0, ""))}))
	as(t, h,
		one{5, "cd", "a"}, one{deep, "hd", "b"}, one{3, "l-", "c"}, one{7, "x-", "d"}, one{1, "ch", "e"}, one{6, "e-", "f"},
		one{far, "d-", "most"}, one{deep, "d-", "least"}, one{1, "d-", "again"}, one{0, "d-", ""},
	)
	ok(t, m.Abort(10))
	ok(t, m.Abort(11))
	sees(t, h, begin(t, m), row(deep, "least"), row(0, ""), row(1, "again"), row(3, "c"), row(6, "f"), row(far, "most"))
}

func TestRedoOfOneKeyAgain(t *testing.T) {
	for _, c := range []struct {
		name string
		ops  []heap.Op
		want []api.Row // of key 5, behind it
		n    int       // versions
	}{
		{"nil", nil, []api.Row{row(5, "a")}, 1},
		{"empty", []heap.Op{}, []api.Row{row(5, "a")}, 1},
		{"one row", []heap.Op{is(row(5, "b"))}, []api.Row{row(5, "b")}, 2},
		{"two rows", []heap.Op{is(row(5, "b")), is(row(5, "c"))}, []api.Row{row(5, "c")}, 3},
		{"gone", []heap.Op{gone(5)}, nil, 1},
		{"gone twice", []heap.Op{gone(5), gone(5)}, nil, 1},
		{"gone, and there again", []heap.Op{gone(5), is(row(5, "b"))}, []api.Row{row(5, "b")}, 2},
		{"there, and gone again", []heap.Op{is(row(5, "b")), gone(5)}, nil, 2},
		{"there, gone, there", []heap.Op{is(row(5, "b")), gone(5), is(row(5, "c"))}, []api.Row{row(5, "c")}, 3},
		{"gone, there, gone", []heap.Op{gone(5), is(row(5, "b")), gone(5), gone(5)}, nil, 2},
		{"the same row", []heap.Op{is(row(5, "a")), is(row(5, "a"))}, []api.Row{row(5, "a")}, 3},
		{"another key between", []heap.Op{is(row(5, "b")), gone(6), is(row(5, "c")), gone(-5)}, []api.Row{row(5, "c")}, 3},
		{"so many", slices.Repeat([]heap.Op{is(row(5, "x")), gone(5), gone(5), is(row(5, "y"))}, 200), []api.Row{row(5, "y")}, 401},
	} {
		t.Run(c.name, func(t *testing.T) {
			m := txn.New()
			h := heap.New(m)
			v := begin(t, m)
			ok(t, h.Insert(v, row(5, "a")))
			ok(t, m.Commit(v.Own))
			reader, x := begin(t, m), begin(t, m)
			ok(t, m.Commit(x.Own))
			ok(t, h.Redo(x.Own, c.ops))
			sees(t, h, reader, row(5, "a"))
			sees(t, h, begin(t, m), c.want...)
			if h.Len() != c.n {
				t.Error(h.Len())
			}
		})
	}
}

// Of several of one key that might die the first one does; the next time the next one.
func TestRedoOfSeveral(t *testing.T) {
	versions := []one{{5, "o-", "0"}, {5, "ch", "1"}, {5, "h-", "2"}, {5, "lx", "3"}, {5, "a-", "4"}, {5, "eb", "5"}}
	h, _ := lay(t, versions...)
	for _, i := range []int{2, 3, 5} {
		ok(t, h.Redo(4, []heap.Op{gone(5)}))
		versions[i].by = versions[i].by[:1] + "d"
		as(t, h, versions...)
	}
	ok(t, h.Redo(4, []heap.Op{gone(5), is(row(6, "b"))}))
	as(t, h, append(versions, one{6, "d-", "b"})...)
}

func TestRedoOfWhoIsNotCommitted(t *testing.T) {
	versions := []one{{5, "c-", "a"}, {6, "o-", "b"}, {7, "x-", "c"}, {3, "a-", "d"}}
	h, _ := lay(t, versions...)
	before := told(h)
	for _, x := range []int64{deep, -1, 0, 3, 5, 9, 10, 11, 13, 14, 1<<32 + 1, far} {
		for _, ops := range [][]heap.Op{nil, {}, {gone(5)}, {is(row(5, "b"))}, {is(row(9, "b")), gone(9)}, {gone(3), gone(6), gone(7)}} {
			if e := h.Redo(x, ops); e != api.ErrState {
				t.Fatal(x, ops, e)
			}
		}
	}
	if got := told(h); got != before {
		t.Error(unlike(got, before))
	}
}

// What one transaction has done is the same, redone: to whoever comes behind it, here and there.
func TestRedoIsWhatWasDone(t *testing.T) {
	m, n := txn.New(), txn.New()
	h, again := heap.New(m), heap.New(n)
	for i := range int64(30) {
		v, w := begin(t, m), begin(t, n)
		ok(t, m.Commit(begin(t, m).Own)) // one between
		ok(t, n.Commit(begin(t, n).Own))
		var ops []heap.Op
		for j := range int64(5) {
			r := row((i*5+j*3)%17-8, fmt.Sprint(i, j))
			if e := h.Insert(v, r); e == api.ErrDup && (i+j)%3 == 0 {
				ok(t, h.Delete(v, r.Key))
				ops = append(ops, gone(r.Key))
				continue
			} else if e == api.ErrDup {
				ok(t, h.Update(v, r))
			} else {
				ok(t, e)
			}
			ops = append(ops, is(r))
		}
		ok(t, m.Commit(v.Own))
		ok(t, n.Commit(w.Own))
		ok(t, again.Redo(w.Own, ops))
		for _, max := range []int64{0, i, v.Own, v.Own + 1, far} {
			if a, b := h.Scan(heap.View{Snap: at(max)}), again.Scan(heap.View{Snap: at(max)}); !slices.Equal(a, b) {
				t.Fatal(i, max, a, b)
			}
		}
	}
}

func TestVacuumOfOne(t *testing.T) {
	for _, c := range []struct {
		name string
		s    api.Snapshot
		of   string // whose deaths it sees
	}{
		{"mine", at(12, 2), "c"},
		{"no snapshot", api.Snapshot{}, ""},
		{"Max 1", at(1), ""},
		{"Max 2", at(2), "c"},
		{"Max 2, and it is open", at(2, 1), ""},
		{"Max is the last one", at(12), "ch"},
		{"all", at(13), "chl"},
		{"all that may be", at(far), "chl"},
		{"not Right", at(far, 12, -3, 1, 1), "h"},
		{"below all", at(deep, deep), ""},
	} {
		for _, birth := range births {
			for _, death := range deaths {
				by := string(birth) + string(death)
				t.Run(c.name+" "+by, func(t *testing.T) {
					h, _ := lay(t, one{5, by, "a"})
					if birth == 'a' || strings.ContainsRune(c.of, death) {
						if n := h.Vacuum(c.s); n != 1 || h.Len() != 0 {
							t.Fatal(n, h.Len())
						}
						as(t, h)
					} else {
						if n := h.Vacuum(c.s); n != 0 || h.Len() != 1 {
							t.Fatal(n, h.Len())
						}
						as(t, h, one{5, by, "a"})
					}
				})
			}
		}
	}
}

func TestVacuum(t *testing.T) {
	h, _ := lay(t,
		one{5, "cd", "0"}, one{5, "lh", "1"}, one{3, "a-", "2"}, one{5, "a-", "3"}, one{7, "b-", "4"}, one{5, "xe", "5"},
		one{5, "o-", "6"}, one{deep, "ca", "7"}, one{far, "cd", "8"}, one{far, "h-", "9"}, one{3, "bx", "10"}, one{0, "n-", "11"},
	)
	if n := h.Vacuum(at(12, 2)); n != 7 || h.Len() != 5 {
		t.Error(n, h.Len())
	}
	as(t, h, one{5, "lh", "1"}, one{5, "o-", "6"}, one{deep, "ca", "7"}, one{far, "h-", "9"}, one{0, "n-", "11"})
	for range 2 {
		if n := h.Vacuum(at(12, 2)); n != 0 || h.Len() != 5 {
			t.Error(n, h.Len())
		}
	}
	if n := h.Vacuum(at(12)); n != 1 || h.Len() != 4 {
		t.Error(n, h.Len())
	}
	as(t, h, one{5, "o-", "6"}, one{deep, "ca", "7"}, one{far, "h-", "9"}, one{0, "n-", "11"})
}

// What comes behind a Vacuum stands behind what is left.
func TestOnBehindVacuum(t *testing.T) {
	m := txn.New()
	h := heap.New(m)
	v := begin(t, m)
	ok(t, h.Insert(v, row(5, "a")))
	ok(t, h.Insert(v, row(6, "b")))
	ok(t, m.Commit(v.Own))
	reader := begin(t, m)
	v = begin(t, m)
	ok(t, h.Update(v, row(5, "c")))
	ok(t, h.Update(v, row(5, "d")))
	ok(t, h.Delete(v, 6))
	ok(t, m.Commit(v.Own))
	if n := h.Vacuum(reader.Snap); n != 0 {
		t.Error(n)
	}
	sees(t, h, reader, row(5, "a"), row(6, "b"))
	ok(t, m.Abort(reader.Own))
	if n := h.Vacuum(m.Now()); n != 3 || h.Len() != 1 {
		t.Error(n, h.Len())
	}
	v = begin(t, m)
	sees(t, h, v, row(5, "d"))
	if e := h.Insert(v, row(5, "e")); e != api.ErrDup {
		t.Error(e)
	}
	ok(t, h.Insert(v, row(6, "f")))
	ok(t, h.Update(v, row(5, "g")))
	sees(t, h, v, row(5, "g"), row(6, "f"))
	ok(t, m.Abort(v.Own))
	sees(t, h, v, row(5, "g"), row(6, "f")) // who was aborted sees its own still
	if n := h.Vacuum(api.Snapshot{}); n != 2 || h.Len() != 1 {
		t.Error(n, h.Len())
	}
	sees(t, h, begin(t, m), row(5, "d"))
}

// What was let go is not in the way any more, and isn't counted again.
func TestVacuumOfAll(t *testing.T) {
	m := txn.New()
	h := heap.New(m)
	for range 50 {
		v := begin(t, m)
		for key := range int64(20) {
			ok(t, h.Insert(v, row(key, "a")))
		}
		if v.Own%2 == 0 {
			ok(t, m.Abort(v.Own))
		} else {
			_, e := h.Truncate(v)
			ok(t, e)
			ok(t, m.Commit(v.Own))
		}
		if n := h.Vacuum(m.Now()); n != 20 || h.Len() != 0 {
			t.Fatal(n, h.Len())
		}
		sees(t, h, heap.View{Snap: at(far)})
	}
}
