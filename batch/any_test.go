package batch_test

import (
	"slices"
	"strings"
	"testing"

	"carrier/api"
	"carrier/batch"
	"carrier/txn"
)

// anyManagers are managers of all kinds, by names.
func anyManagers(t *testing.T) map[string]*txn.Manager {
	loaded := func(next int64) *txn.Manager {
		m := made(t, "caoo")
		if e := m.Load(next, []int64{1, next - 1}); e != api.OK {
			t.Fatal(next, e)
		}
		return m
	}
	emptied := made(t, "ccc")
	emptied.Load(1, nil)
	return map[string]*txn.Manager{
		"nil": nil, "just made": txn.New(), "each state": made(t, "caocaoco"), "all are open": made(t, "oooooo"),
		"all were committed": made(t, strings.Repeat("c", 50)), "all were aborted": made(t, strings.Repeat("a", 50)),
		"loaded": loaded(41), "no number is left": loaded(api.MaxTxid), "nobody ever was": emptied,
	}
}

// anyLists are lists of events of all kinds: none, one, many; unsorted, with like IDs.
func anyLists() [][]api.Event {
	l := anyEvents()
	backward := slices.Clone(l)
	slices.Reverse(backward)
	return [][]api.Event{nil, {}, l[:1], l[:7], evs("3.1 2.2 3.3a 1.4 3.5"), slices.Repeat(evs("7.1 7.2"), 50), l, backward}
}

// Whatever the calls are handed, each ends, and tells what it may.
func TestAnyCall(t *testing.T) {
	snapshots := anyone()
	owners := []string{"", "a", api.Replica, "\xff\x00", strings.Repeat("t", api.MaxText), strings.Repeat("u", 1<<12), "nobody"}
	for name, m := range anyManagers(t) {
		for i, l := range anyLists() {
			for j, from := range snapshots {
				to := snapshots[(j*7+i)%len(snapshots)]
				owner := owners[(i+j)%len(owners)]
				got := batch.Of(l, m, from, to, owner)
				if len(got) > len(l) || m == nil && len(got) > 0 {
					t.Fatal(name, short(got))
				}
				if !slices.IsSortedFunc(got, byID) {
					t.Fatal(name, short(got))
				}
				batch.Free(l, m, snapshots[j:])
				batch.Free(l, m, []api.Snapshot{from, to})
				if len(l) > 0 {
					batch.Needs(l[j%len(l)], m, snapshots[:j])
				}
			}
		}
	}
}

func byID(a, b api.Event) int {
	switch {
	case a.ID < b.ID:
		return -1
	case a.ID > b.ID:
		return 1
	}
	return 0
}

// Lists far greater than a spool ever has, and snapshots with very many open ones, and very many of them.
func TestVeryMany(t *testing.T) {
	const many = 1 << 17
	m := made(t, "caoc")
	var l []api.Event
	for i := range int64(many) {
		l = append(l, api.Event{ID: many - i, Tx: 1 + i%4, Tries: int(i)})
	}
	got := batch.Of(l, m, at(1), at(9), "")
	if len(got) != many/2 || !slices.IsSortedFunc(got, byID) {
		t.Fatal(short(got))
	}
	s := slices.Repeat([]api.Snapshot{at(9)}, many)
	closed := slices.DeleteFunc(slices.Clone(l), func(e api.Event) bool { return e.Tx == 3 })
	frees(t, closed[:50], m, s, true)
	frees(t, closed, m, s[:5], true)
	frees(t, l, m, s[:5], false)
	s[many-1] = at(4)
	frees(t, closed[:50], m, s, false)

	open := at(far)
	for x := int64(many); x > 0; x-- {
		open.Open = append(open.Open, x+2)
	}
	question{m, open, at(9), ""}.tells(t, evs("2.1 1.4 0.3"), 1)
	question{m, at(1), open, ""}.tells(t, evs("2.1 1.4 0.3"), 0)
	needs(t, api.Event{Tx: 4}, m, []api.Snapshot{open, open}, true)
	needs(t, api.Event{Tx: 1}, m, []api.Snapshot{open, open}, false)
}
