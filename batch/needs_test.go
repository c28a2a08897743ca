package batch_test

import (
	"math"
	"slices"
	"strings"
	"testing"

	"carrier/api"
	"carrier/batch"
	"carrier/txn"
)

// goers are lists of snapshots: of none, of one, of several, of many.
func goers() [][]api.Snapshot {
	l := [][]api.Snapshot{nil, {}, {{}}, {at(1)}, {at(2)}, {at(9)}, {at(9, 1)}, {at(9, 2, 3)}, {at(far)}, {at(1), at(9)}, {at(9), at(9), at(9)}}
	l = append(l, slices.Repeat([]api.Snapshot{at(9)}, 300), slices.Repeat([]api.Snapshot{at(1)}, 300))
	for _, s := range anyone() {
		l = append(l, []api.Snapshot{s})
	}
	return append(l, anyone())
}

// Of one that is open the answer is yes, whoever goes on from wherever.
func TestNeedsOfOpen(t *testing.T) {
	m := made(t, "coaoc")
	for _, s := range goers() {
		needs(t, api.Event{Tx: 2}, m, s, true)
		needs(t, api.Event{Tx: 4}, m, s, true)
	}
}

// Of one that was aborted, or that there isn't, it is no, whoever goes on.
func TestNeedsOfOthers(t *testing.T) {
	for _, s := range goers() {
		for _, x := range []int64{deep, deep + 1, -1<<32 + 1, -1, 0, 3, 6, 7, api.MaxTxid, 1<<32 + 1, 1<<32 + 2, far - 1, far} {
			needs(t, api.Event{Tx: x}, made(t, "coaoc"), s, false)
			needs(t, api.Event{Tx: x}, nil, s, false)
		}
		needs(t, api.Event{Tx: 1}, txn.New(), s, false)
		needs(t, api.Event{Tx: 1}, nil, s, false)
	}
}

// Of one that was committed it is yes just if somebody goes on from where it isn't seen.
func TestNeedsOfCommitted(t *testing.T) {
	m := made(t, "cccccc")
	sees, unseen := at(9), at(9, 5)
	for _, c := range []struct {
		name string
		s    []api.Snapshot
		want bool
	}{
		{"nobody goes on", nil, false},
		{"nobody goes on, of an empty list", []api.Snapshot{}, false},
		{"one who sees it", []api.Snapshot{sees}, false},
		{"one who doesn't", []api.Snapshot{unseen}, true},
		{"both see it", []api.Snapshot{sees, sees}, false},
		{"the first one doesn't", []api.Snapshot{unseen, sees}, true},
		{"the last one doesn't", []api.Snapshot{sees, unseen}, true},
		{"neither does", []api.Snapshot{unseen, unseen}, true},
		{"the Max is its number", []api.Snapshot{at(5)}, true},
		{"the Max is the next one", []api.Snapshot{at(6)}, false},
		{"the Max is far below", []api.Snapshot{at(1)}, true},
		{"the Max is just below", []api.Snapshot{at(4)}, true},
		{"it is the first open one", []api.Snapshot{at(9, 5, 7)}, true},
		{"it is the last open one", []api.Snapshot{at(9, 2, 5)}, true},
		{"it is an open one in the middle", []api.Snapshot{at(9, 2, 5, 7)}, true},
		{"its neighbours are open", []api.Snapshot{at(9, 4, 6)}, false},
		{"all others are open", []api.Snapshot{at(7, 1, 2, 3, 4, 6)}, false},
		{"it is open just below the Max", []api.Snapshot{at(6, 5)}, true},
		{"the zero one", []api.Snapshot{{}}, true},
		{"the zero one among others", []api.Snapshot{sees, {}, sees}, true},
		{"the greatest Max", []api.Snapshot{at(far)}, false},
		{"the greatest Max, and it is open", []api.Snapshot{at(far, 5)}, true},
		{"the least Max", []api.Snapshot{at(deep)}, true},
		{"Open falls", []api.Snapshot{at(9, 8, 5, 2)}, true},
		{"Open has like ones", []api.Snapshot{at(9, 5, 5)}, true},
		{"Open has like ones of others", []api.Snapshot{at(9, 4, 4, 6, 6)}, false},
		{"Open has what no number is", []api.Snapshot{at(9, deep, -5, 0, far)}, false},
	} {
		t.Run(c.name, func(t *testing.T) { needs(t, api.Event{Tx: 5}, m, c.s, c.want) })
	}
}

// Wherever the one stands who doesn't see it, among however many who do.
func TestNeedsOfOneAmongMany(t *testing.T) {
	m := made(t, "cc")
	for n := range 40 {
		for i := range n {
			s := slices.Repeat([]api.Snapshot{at(3)}, n)
			needs(t, api.Event{Tx: 2}, m, s, false)
			for _, unseen := range []api.Snapshot{at(2), at(3, 2), {}} {
				s[i] = unseen
				needs(t, api.Event{Tx: 2}, m, s, true)
			}
			needs(t, api.Event{Tx: 1}, m, s, true) // the zero one sees nobody
			s[i] = at(2)
			needs(t, api.Event{Tx: 1}, m, s, false)
		}
	}
}

// All pairs of small snapshots, of each transaction.
func TestNeedsOfAllSmallSnapshots(t *testing.T) {
	m := made(t, "ccccc")
	snapshots := right(6)
	for _, a := range snapshots {
		for _, b := range snapshots {
			for x := int64(1); x <= 5; x++ {
				needs(t, api.Event{Tx: x}, m, []api.Snapshot{a, b}, !saw(a, x) || !saw(b, x))
			}
		}
	}
}

// Any snapshots, Right or not.
func TestNeedsOfAnySnapshots(t *testing.T) {
	m := txn.New()
	m.Load(api.MaxTxid, []int64{1, 2, 3, 4, 5, 9, api.MaxTxid - 1})
	for _, s := range anyone() {
		for _, x := range []int64{1, 2, 3, 4, 5, 9, api.MaxTxid - 1} {
			needs(t, api.Event{Tx: x}, m, []api.Snapshot{s}, !saw(s, x))
			needs(t, api.Event{Tx: x}, m, []api.Snapshot{at(far), s, at(far)}, !saw(s, x))
		}
		needs(t, api.Event{Tx: 6}, m, []api.Snapshot{s}, false)
	}
}

// Just the transaction counts: nothing else that an event has.
func TestNeedsGoesByTheTransaction(t *testing.T) {
	letters := "ccaoc"
	m := made(t, letters)
	for _, e := range anyEvents() {
		is := letter(letters, e.Tx)
		needs(t, e, m, nil, is == 'o')
		needs(t, e, m, []api.Snapshot{at(2), at(9)}, is == 'o' || is == 'c' && e.Tx > 1)
		needs(t, e, m, []api.Snapshot{at(9), at(9, 1)}, is == 'o' || is == 'c' && e.Tx == 1)
	}
	odd := api.Event{ID: deep, Tx: 1, Owner: strings.Repeat("o", 99), Tries: -1, Table: math.MinInt, Kind: 255}
	needs(t, odd, m, []api.Snapshot{at(1)}, true)
	needs(t, odd, m, []api.Snapshot{at(2)}, false)
}

// What becomes of it counts as it is when one asks.
func TestNeedsOfStatesAsTheyAre(t *testing.T) {
	m := made(t, "oo")
	a, b := api.Event{ID: 1, Tx: 1}, api.Event{ID: 2, Tx: 2}
	s := []api.Snapshot{at(3), at(3, 2)}
	needs(t, a, m, s, true)
	needs(t, b, m, s, true)
	m.Commit(1)
	m.Commit(2)
	needs(t, a, m, s, false)
	needs(t, b, m, s, true)
	needs(t, b, m, s[:1], false)
	m.Load(3, []int64{1})
	needs(t, b, m, s, false)
	m.Load(2, nil)
	needs(t, a, m, []api.Snapshot{at(1)}, false)
	needs(t, b, m, nil, false)
	m.Begin()
	needs(t, b, m, nil, true)
}

func TestFreeOfNothing(t *testing.T) {
	for _, l := range [][]api.Event{nil, {}, make([]api.Event, 0, 9)} {
		for _, s := range goers() {
			frees(t, l, made(t, "coa"), s, true)
			frees(t, l, txn.New(), s, true)
			frees(t, l, nil, s, true)
		}
	}
}

// Those that nobody wants, and one of each kind that somebody does: first, last, and in each place between.
func TestFreeOfOneThatIsWanted(t *testing.T) {
	m := made(t, "cocac")
	s := []api.Snapshot{at(6), at(6, 3), at(9, 3)}
	for n := range 30 {
		l := evs(strings.Repeat("1.1 2.4 3.6 4.5a 5.0 ", 6))[:n]
		frees(t, l, m, s, true)
		for i := range n {
			was := l[i]
			for _, x := range []int64{2, 3} {
				l[i].Tx = x
				frees(t, l, m, s, false)
			}
			frees(t, l[:i], m, s, true)
			frees(t, l[i+1:], m, s, true)
			l[i] = was
		}
	}
}

func TestFreeOfAllThatAreWanted(t *testing.T) {
	m := made(t, "cocac")
	frees(t, evs("1.1 2.2 3.3 4.5"), m, []api.Snapshot{at(1)}, false)
	frees(t, evs("3.3 4.5"), m, []api.Snapshot{at(1)}, false)
	frees(t, evs("2.2 2.2"), m, []api.Snapshot{at(9)}, false)
}

// Where nobody goes on just those are wanted that are open.
func TestFreeOfNoSnapshots(t *testing.T) {
	m := made(t, "cocac")
	for _, s := range [][]api.Snapshot{nil, {}} {
		frees(t, evs("1.1 2.3 3.4 4.5 5.6 6.0"), m, s, true)
		frees(t, evs("1.1 2.3 3.4 4.5 5.6 6.0 7.2"), m, s, false)
		frees(t, evs("7.2"), m, s, false)
	}
}

// Free holds just where Needs holds of none: of all lists of few kinds of events.
func TestFreeIsWhereNoneIsNeeded(t *testing.T) {
	letters := "cocac"
	kinds := evs("1.1 2.2 3.3 4.4 5.5 6.6")
	for _, m := range []*txn.Manager{made(t, letters), txn.New(), nil} {
		for _, s := range goers()[:13] {
			for n := range len(kinds) * len(kinds) * len(kinds) {
				l := chosen(kinds, n%6, n/6%6, n/36)
				want := true
				for _, e := range l {
					if batch.Needs(e, m, s) {
						want = false
					}
				}
				frees(t, l, m, s, want)
			}
		}
	}
}

func TestFreeOfNilManager(t *testing.T) {
	for _, s := range goers() {
		frees(t, anyEvents(), nil, s, true)
	}
}
