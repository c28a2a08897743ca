package heap_test

import (
	"slices"
	"strings"
	"testing"

	"carrier/api"
	"carrier/heap"
	"carrier/txn"
)

// answers are the letters that stand for them in a table.
var answers = map[byte]api.Errno{'.': api.OK, 'N': api.ErrNone, 'D': api.ErrDup, 'C': api.ErrConflict}

func TestInsert(t *testing.T) {
	// deaths: -ochlxan
	table(t, `
		D..DDDDD
		D..DDDDD
		C....CCC
		C....CCC
		C....CCC
		........
		........
	`, func(t *testing.T, by string, letter byte) {
		old := one{5, by, "a"}
		h, _ := lay(t, old)
		if e := h.Insert(mine(), row(5, "new")); e != answers[letter] {
			t.Fatal(e)
		}
		if letter != '.' {
			as(t, h, old)
			return
		}
		if by[0] == 'o' { // two of one birth can't be laid
			sees(t, h, mine(), row(5, "new"))
			return
		}
		as(t, h, old, one{5, "o-", "new"})
	})
}

// removed are the answers of Update and Delete alike.
const removed = `
	.NNCCC..
	.NNCCC..
	NNNNNNNN
	NNNNNNNN
	NNNNNNNN
	NNNNNNNN
	NNNNNNNN
`

func TestDelete(t *testing.T) {
	table(t, removed, func(t *testing.T, by string, letter byte) {
		h, _ := lay(t, one{5, by, "a"})
		if e := h.Delete(mine(), 5); e != answers[letter] {
			t.Fatal(e)
		}
		if letter == '.' {
			by = by[:1] + "o"
		}
		as(t, h, one{5, by, "a"})
	})
}

func TestUpdate(t *testing.T) {
	table(t, removed, func(t *testing.T, by string, letter byte) {
		h, m := lay(t, one{5, by, "a"})
		if e := h.Update(mine(), row(5, "new")); e != answers[letter] {
			t.Fatal(e)
		}
		switch {
		case letter != '.':
			as(t, h, one{5, by, "a"})
		case by[0] == 'o':
			sees(t, h, mine(), row(5, "new"))
			ok(t, m.Commit(11))
			sees(t, h, heap.View{Snap: at(far)}, row(5, "new"))
		default:
			as(t, h, one{5, by[:1] + "o", "a"}, one{5, "o-", "new"})
		}
	})
}

func TestTruncateOfOne(t *testing.T) {
	table(t, removed, func(t *testing.T, by string, letter byte) {
		h, _ := lay(t, one{5, by, "a"})
		rows, e := h.Truncate(mine())
		var want []api.Row
		switch letter {
		case 'C':
			if e != api.ErrConflict {
				t.Fatal(e)
			}
		case '.':
			want = []api.Row{row(5, "a")}
			by = by[:1] + "o"
			fallthrough
		case 'N': // of none there is nothing to do
			ok(t, e)
		}
		if !slices.Equal(rows, want) {
			t.Fatal(rows)
		}
		as(t, h, one{5, by, "a"})
	})
}

// What another key's versions are is nothing to a statement.
func TestOtherKeys(t *testing.T) {
	others := []one{{4, "x-", "x"}, {6, "h-", "h"}, {-5, "ch", "c"}, {1<<32 + 5, "c-", "far"}, {deep, "d-", "d"}}
	h, _ := lay(t, others...)
	ok(t, h.Insert(mine(), row(5, "a")))
	as(t, h, append(others, one{5, "o-", "a"})...)
	if e := h.Update(mine(), row(7, "a")); e != api.ErrNone {
		t.Error(e)
	}
	if e := h.Delete(mine(), 7); e != api.ErrNone {
		t.Error(e)
	}
	ok(t, h.Delete(mine(), 5))
	ok(t, h.Update(mine(), row(1<<32+5, "new")))
	sees(t, h, mine(), row(deep, "d"), row(-5, "c"), row(1<<32+5, "new"))
}

// Of several of one key the first one that is seen is meant, whatever the others are.
func TestWriteOfSeveral(t *testing.T) {
	for _, c := range []struct {
		name     string
		versions []one
		want     byte
	}{
		{"both may die", []one{{5, "c-", "1"}, {5, "d-", "2"}}, '.'},
		{"the first died hidden", []one{{5, "ch", "1"}, {5, "d-", "2"}}, 'C'},
		{"the first died by an open one", []one{{5, "cx", "1"}, {5, "d-", "2"}}, 'C'},
		{"the first died by an aborted one", []one{{5, "ca", "1"}, {5, "d-", "2"}}, '.'},
		{"the second died hidden", []one{{5, "c-", "1"}, {5, "dh", "2"}}, '.'},
		{"the second died by an open one", []one{{5, "ca", "1"}, {5, "dx", "2"}}, '.'},
		{"the first isn't seen", []one{{5, "xh", "1"}, {5, "d-", "2"}}, '.'},
		{"the first isn't seen, the second died", []one{{5, "h-", "1"}, {5, "dx", "2"}}, 'C'},
		{"neither is seen", []one{{5, "xh", "1"}, {5, "a-", "2"}, {5, "h-", "3"}}, 'N'},
	} {
		t.Run(c.name, func(t *testing.T) {
			behind := slices.Clone(c.versions)
			if c.want == '.' {
				i := slices.IndexFunc(behind, func(v one) bool { return v.by[0] == 'c' || v.by[0] == 'd' })
				behind[i].by = behind[i].by[:1] + "o"
			}
			h, _ := lay(t, c.versions...)
			if e := h.Delete(mine(), 5); e != answers[c.want] {
				t.Fatal(e)
			}
			as(t, h, behind...)
			h, _ = lay(t, c.versions...)
			if e := h.Update(mine(), row(5, "new")); e != answers[c.want] {
				t.Fatal(e)
			}
			if c.want == '.' {
				behind = append(behind, one{5, "o-", "new"})
			}
			as(t, h, behind...)
		})
	}
}

// Any version with that key may be in the way of an Insert, not the first or the last one alone.
func TestInsertBehindSeveral(t *testing.T) {
	for _, c := range []struct {
		name     string
		versions []one
		want     byte
	}{
		{"none is in the way", []one{{5, "ch", "1"}, {5, "aa", "2"}, {5, "n-", "3"}}, 'D'},
		{"none is seen", []one{{5, "hl", "1"}, {5, "ab", "2"}, {5, "n-", "3"}}, '.'},
		{"the first one is", []one{{5, "h-", "1"}, {5, "ab", "2"}, {5, "n-", "3"}}, 'C'},
		{"the second one is", []one{{5, "hl", "1"}, {5, "xb", "2"}, {5, "n-", "3"}}, 'C'},
		{"the last one is", []one{{5, "hl", "1"}, {5, "ab", "2"}, {5, "l-", "3"}}, 'C'},
		{"one is seen behind one in the way", []one{{5, "h-", "1"}, {5, "c-", "2"}}, 'D'},
		{"one is seen ahead of one in the way", []one{{5, "c-", "1"}, {5, "x-", "2"}}, 'D'},
		{"one is seen, and died by an open one", []one{{5, "hl", "1"}, {5, "cx", "2"}}, 'D'},
		{"all are dead for sure", []one{{5, "hl", "1"}, {5, "xc", "2"}, {5, "do", "3"}, {5, "le", "4"}}, '.'},
	} {
		t.Run(c.name, func(t *testing.T) {
			h, _ := lay(t, c.versions...)
			if e := h.Insert(mine(), row(5, "new")); e != answers[c.want] {
				t.Fatal(e)
			}
			if c.want == '.' {
				c.versions = append(c.versions, one{5, "o-", "new"})
			}
			as(t, h, c.versions...)
		})
	}
}

func TestTruncate(t *testing.T) {
	h, _ := lay(t,
		one{7, "c-", "7"}, one{5, "ca", "first"}, one{deep, "d-", "least"}, one{5, "x-", "not yet"}, one{3, "co", "dead"},
		one{far, "o-", "most"}, one{5, "d-", "second"}, one{-1, "cn", "-1"}, one{0, "h-", "hidden"}, one{5, "ob", "third"},
		one{1, "a-", "never"}, one{2, "lx", "late"}, one{4, "cd", "gone"},
	)
	rows, e := h.Truncate(mine())
	want := []api.Row{row(deep, "least"), row(-1, "-1"), row(5, "first"), row(5, "second"), row(5, "third"), row(7, "7"), row(far, "most")}
	if !slices.Equal(rows, want) || e != api.OK {
		t.Error(rows, e)
	}
	as(t, h,
		one{7, "co", "7"}, one{5, "co", "first"}, one{deep, "do", "least"}, one{5, "x-", "not yet"}, one{3, "co", "dead"},
		one{far, "oo", "most"}, one{5, "do", "second"}, one{-1, "co", "-1"}, one{0, "h-", "hidden"}, one{5, "oo", "third"},
		one{1, "a-", "never"}, one{2, "lx", "late"}, one{4, "cd", "gone"},
	)
	rows, e = h.Truncate(mine())
	if len(rows) != 0 || e != api.OK {
		t.Error(rows, e)
	}
}

// One that can't die, the first, the last, or between: none dies then.
func TestTruncateConflicts(t *testing.T) {
	for _, by := range []string{"ch", "cl", "cx", "ox", "oh", "ol"} {
		for _, key := range []int64{deep, -1, 2, 5, 6, far} {
			versions := []one{{1, "d-", "1"}, {5, "d-", "5"}, {0, "dd", "0"}, {7, "a-", "7"}, {3, "da", "3"}, {4, "x-", "4"}, {key, by, "late"}}
			h, _ := lay(t, versions...)
			if rows, e := h.Truncate(mine()); len(rows) != 0 || e != api.ErrConflict {
				t.Fatal(by, key, rows, e)
			}
			as(t, h, versions...)
		}
	}
}

func TestNotOpen(t *testing.T) {
	versions := []one{{5, "c-", "a"}, {6, "ch", "b"}, {7, "h-", "c"}, {3, "x-", "d"}, {1, "a-", "e"}}
	h, m := lay(t, versions...)
	ok(t, m.Commit(number['o']))
	before := told(h)
	for _, own := range []int64{deep, deep + 1, -11, -1, 0, 1, 2, 3, 9, 11, 12, 13, 14, 1<<32 + 10, far - 1, far} {
		for _, s := range []api.Snapshot{{}, at(12, 2), at(13), at(far), at(deep, 0, -1)} {
			v := heap.View{Snap: s, Own: own}
			for _, key := range []int64{deep, 0, 1, 3, 5, 6, 7, 9} {
				if e := h.Insert(v, row(key, "new")); e != api.ErrState {
					t.Fatal(v, key, e)
				}
				if e := h.Update(v, row(key, "new")); e != api.ErrState {
					t.Fatal(v, key, e)
				}
				if e := h.Delete(v, key); e != api.ErrState {
					t.Fatal(v, key, e)
				}
			}
			if rows, e := h.Truncate(v); len(rows) != 0 || e != api.ErrState {
				t.Fatal(v, rows, e)
			}
		}
	}
	if got := told(h); got != before {
		t.Error(unlike(got, before))
	}
}

// Who has ended writes no more, though its view is what it was.
func TestNoMoreBehindTheEnd(t *testing.T) {
	for _, end := range []func(m *txn.Manager, x int64) api.Errno{(*txn.Manager).Commit, (*txn.Manager).Abort} {
		m := txn.New()
		h := heap.New(m)
		v := begin(t, m)
		ok(t, h.Insert(v, row(5, "a")))
		ok(t, end(m, v.Own))
		if e := h.Insert(v, row(6, "b")); e != api.ErrState {
			t.Error(e)
		}
		if e := h.Delete(v, 5); e != api.ErrState {
			t.Error(e)
		}
		if e := h.Update(v, row(5, "b")); e != api.ErrState {
			t.Error(e)
		}
		if rows, e := h.Truncate(v); len(rows) != 0 || e != api.ErrState {
			t.Error(rows, e)
		}
		sees(t, h, v, row(5, "a"))
		if h.Len() != 1 {
			t.Error(h.Len())
		}
	}
}

// Who saw the old row sees it still, whatever becomes of who changed it.
func TestOldRowsStay(t *testing.T) {
	m := txn.New()
	h := heap.New(m)
	v := begin(t, m)
	ok(t, h.Insert(v, row(5, "a")))
	ok(t, h.Insert(v, row(3, "b")))
	ok(t, h.Insert(v, row(4, "c")))
	ok(t, m.Commit(v.Own))
	old := []api.Row{row(3, "b"), row(4, "c"), row(5, "a")}
	reader, writer, deleter := begin(t, m), begin(t, m), begin(t, m)
	ok(t, h.Update(writer, row(5, "new")))
	ok(t, h.Delete(deleter, 3))
	sees(t, h, reader, old...)
	sees(t, h, writer, row(3, "b"), row(4, "c"), row(5, "new"))
	sees(t, h, deleter, row(4, "c"), row(5, "a"))
	ok(t, m.Commit(writer.Own))
	sees(t, h, reader, old...)
	sees(t, h, deleter, row(4, "c"), row(5, "a"))
	sees(t, h, begin(t, m), row(3, "b"), row(4, "c"), row(5, "new"))
	ok(t, m.Commit(deleter.Own))
	sees(t, h, reader, old...)
	sees(t, h, begin(t, m), row(4, "c"), row(5, "new"))
	if h.Len() != 4 {
		t.Error(h.Len())
	}
}

// What an aborted one did is as if it had never been; another one does it then.
func TestAborted(t *testing.T) {
	m := txn.New()
	h := heap.New(m)
	v := begin(t, m)
	ok(t, h.Insert(v, row(5, "a")))
	ok(t, h.Insert(v, row(6, "b")))
	ok(t, m.Commit(v.Own))
	first, second := begin(t, m), begin(t, m)
	ok(t, h.Update(first, row(5, "first")))
	ok(t, h.Insert(first, row(7, "first")))
	if e := h.Delete(second, 5); e != api.ErrConflict {
		t.Error(e)
	}
	if e := h.Insert(second, row(7, "second")); e != api.ErrConflict {
		t.Error(e)
	}
	if rows, e := h.Truncate(second); len(rows) != 0 || e != api.ErrConflict {
		t.Error(rows, e)
	}
	ok(t, m.Abort(first.Own))
	ok(t, h.Update(second, row(5, "second")))
	ok(t, h.Insert(second, row(7, "second")))
	ok(t, h.Delete(second, 6))
	sees(t, h, second, row(5, "second"), row(7, "second"))
	ok(t, m.Abort(second.Own))
	sees(t, h, begin(t, m), row(5, "a"), row(6, "b"))
}

// Whoever was first wins, though he was committed meanwhile.
func TestFirstWins(t *testing.T) {
	m := txn.New()
	h := heap.New(m)
	v := begin(t, m)
	ok(t, h.Insert(v, row(5, "a")))
	ok(t, m.Commit(v.Own))
	first, second := begin(t, m), begin(t, m)
	ok(t, h.Delete(first, 5))
	ok(t, h.Insert(first, row(6, "b")))
	ok(t, m.Commit(first.Own))
	for _, e := range []api.Errno{
		h.Update(second, row(5, "c")), h.Delete(second, 5), h.Insert(second, row(6, "c")),
	} {
		if e != api.ErrConflict {
			t.Error(e)
		}
	}
	if e := h.Insert(second, row(5, "c")); e != api.ErrDup {
		t.Error(e)
	}
	if e := h.Delete(second, 6); e != api.ErrNone {
		t.Error(e)
	}
	sees(t, h, second, row(5, "a"))
	if h.Len() != 2 {
		t.Error(h.Len())
	}
}

// In one transaction a row may come and go as often as one likes.
func TestAgainAndAgain(t *testing.T) {
	m := txn.New()
	h := heap.New(m)
	v := begin(t, m)
	for i := range 100 {
		text := strings.Repeat("x", i)
		ok(t, h.Insert(v, row(5, text)))
		if e := h.Insert(v, row(5, "again")); e != api.ErrDup {
			t.Fatal(e)
		}
		sees(t, h, v, row(5, text))
		ok(t, h.Update(v, row(5, "y"+text)))
		sees(t, h, v, row(5, "y"+text))
		if i%2 == 0 {
			ok(t, h.Delete(v, 5))
		} else if rows, e := h.Truncate(v); !slices.Equal(rows, []api.Row{row(5, "y"+text)}) || e != api.OK {
			t.Fatal(rows, e)
		}
		if e := h.Update(v, row(5, "z")); e != api.ErrNone {
			t.Fatal(e)
		}
		if e := h.Delete(v, 5); e != api.ErrNone {
			t.Fatal(e)
		}
		sees(t, h, v)
	}
	if h.Len() != 200 {
		t.Error(h.Len())
	}
}

// What others have begun stays theirs.
func TestTruncateLeavesOthers(t *testing.T) {
	m := txn.New()
	h := heap.New(m)
	v := begin(t, m)
	ok(t, h.Insert(v, row(5, "a")))
	ok(t, h.Insert(v, row(-5, "b")))
	ok(t, m.Commit(v.Own))
	other, own := begin(t, m), begin(t, m)
	ok(t, h.Insert(other, row(1, "other")))
	late := begin(t, m)
	rows, e := h.Truncate(own)
	if !slices.Equal(rows, []api.Row{row(-5, "b"), row(5, "a")}) || e != api.OK {
		t.Fatal(rows, e)
	}
	sees(t, h, own)
	sees(t, h, other, row(-5, "b"), row(1, "other"), row(5, "a"))
	ok(t, h.Insert(own, row(5, "mine")))
	ok(t, m.Commit(own.Own))
	ok(t, m.Commit(other.Own))
	sees(t, h, late, row(-5, "b"), row(5, "a"))
	sees(t, h, begin(t, m), row(1, "other"), row(5, "mine"))
}
