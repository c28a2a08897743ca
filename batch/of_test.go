package batch_test

import (
	"slices"
	"strconv"
	"strings"
	"testing"

	"carrier/api"
	"carrier/batch"
	"carrier/txn"
)

// The chapter's example.
func TestExample(t *testing.T) {
	q := question{made(t, "cc"), at(2), at(3), ""}
	q.tells(t, evs("1.1"))
	q.tells(t, evs("1.2"), 0)
}

// To whom it is told: to all, or to that one alone.
func TestOfOwners(t *testing.T) {
	l := evs("1.1 2.1a 3.1b 4.1ab 5.1A 6.1replica 7.1\x00 8.1\xff 9.1")
	for owner, place := range map[string]int{"a": 1, "b": 2, "ab": 3, "A": 4, api.Replica: 5, "\x00": 6, "\xff": 7} {
		question{made(t, "c"), at(1), at(2), owner}.tells(t, l, 0, place, 8)
	}
	for _, owner := range []string{"", "c", "aa", "B", "replic", "replicas", " a", "a ", "\x00a", strings.Repeat("a", 1<<16)} {
		question{made(t, "c"), at(1), at(2), owner}.tells(t, l, 0, 8)
	}
}

func TestOfOwnersOfAnyLength(t *testing.T) {
	for _, n := range []int{1, 39, 40, 41, 1 << 16} {
		own := strings.Repeat("o", n)
		l := []api.Event{{ID: 1, Tx: 1, Owner: own}, {ID: 2, Tx: 1, Owner: own + "o"}, {ID: 3, Tx: 1, Owner: own[1:]}, {ID: 4, Tx: 1}}
		places := []int{0, 3}
		if n == 1 {
			places = []int{0, 2, 3} // without a byte less it is none's
		}
		question{made(t, "c"), at(1), at(2), own}.tells(t, l, places...)
	}
}

// What became of the transaction: Committed ones' alone, whoever else is seen.
func TestOfStates(t *testing.T) {
	l := evs("1.1 2.2 3.3 4.4 5.5 6.6 7.7 8.0 9.-1 10.8 11.4294967297 12.-4294967295 13.9223372036854775807 14.-9223372036854775808")
	for _, to := range []api.Snapshot{at(8), at(9), at(api.MaxTxid), at(far), at(far, far), at(far, 0, 8)} {
		question{made(t, "coacaoc"), at(1), to, ""}.tells(t, l, 0, 3, 6)
		question{made(t, "aaaaaaa"), at(1), to, ""}.tells(t, l)
		question{made(t, "oooooo"), at(1), to, ""}.tells(t, l)
		question{made(t, "ccccccc"), at(1), to, ""}.tells(t, l, 0, 1, 2, 3, 4, 5, 6)
		question{made(t, "cc"), at(1), to, ""}.tells(t, l, 0, 1)
		question{txn.New(), at(1), to, ""}.tells(t, l)
		question{nil, at(1), to, ""}.tells(t, l)
	}
}

// What becomes of it counts as it is when Of is asked.
func TestOfStatesAsTheyAre(t *testing.T) {
	l := evs("1.1 2.2 3.3")
	m := made(t, "ooo")
	q := question{m, at(1), at(9), ""}
	for _, step := range []struct {
		done   func() api.Errno
		places []int
	}{
		{func() api.Errno { return api.OK }, nil},
		{func() api.Errno { return m.Commit(2) }, []int{1}},
		{func() api.Errno { return m.Abort(3) }, []int{1}},
		{func() api.Errno { return m.Commit(1) }, []int{0, 1}},
		{func() api.Errno { return m.Load(4, []int64{3}) }, []int{2}},
		{func() api.Errno { return m.Load(3, []int64{1, 2}) }, []int{0, 1}},
		{func() api.Errno { _, e := m.Begin(); return e }, []int{0, 1}},
		{func() api.Errno { return m.Commit(3) }, []int{0, 1, 2}},
		{func() api.Errno { return m.Load(1, nil) }, nil},
	} {
		if e := step.done(); e != api.OK {
			t.Fatal(e)
		}
		q.tells(t, l, step.places...)
	}
}

func TestOfSnapshots(t *testing.T) {
	e := evs("1.5")
	for _, c := range []struct {
		name     string
		from, to api.Snapshot
		want     bool
	}{
		{"to sees it, from doesn't", at(3), at(9), true},
		{"both", at(7), at(9), false},
		{"neither", at(3), at(4), false},
		{"from alone", at(9), at(3), false},
		{"from's Max is its number", at(5), at(9), true},
		{"from's Max is the next one", at(6), at(9), false},
		{"to's Max is its number", at(1), at(5), false},
		{"to's Max is the next one", at(1), at(6), true},
		{"both Maxes, just between", at(5), at(6), true},
		{"both Maxes, the other way", at(6), at(5), false},
		{"one snapshot, that sees it", at(6), at(6), false},
		{"one snapshot, that doesn't", at(5), at(5), false},
		{"it is open in from", at(9, 5), at(9), true},
		{"it is the first open one in from", at(9, 5, 7), at(9), true},
		{"it is the last open one in from", at(9, 2, 5), at(9), true},
		{"it is an open one in from's middle", at(9, 2, 5, 7), at(9), true},
		{"it is open in from, which has the Max just beyond it", at(6, 5), at(6), true},
		{"others are open in from", at(9, 4, 6), at(9), false},
		{"all others are open in from", at(9, 1, 2, 3, 4, 6, 7, 8), at(9), false},
		{"it is open in to", at(1), at(9, 5), false},
		{"it is the first open one in to", at(1), at(9, 5, 7), false},
		{"it is the last open one in to", at(1), at(9, 2, 5), false},
		{"it is an open one in to's middle", at(1), at(9, 2, 5, 7), false},
		{"others are open in to", at(1), at(9, 4, 6), true},
		{"all others are open in to", at(1), at(9, 1, 2, 3, 4, 6, 7, 8), true},
		{"it is open in both", at(9, 5), at(9, 5), false},
		{"it is open in from, others in to", at(9, 5), at(12, 4, 9, 11), true},
		{"others are open in from, it is in to", at(9, 4), at(12, 5), false},
		{"from is zero", api.Snapshot{}, at(6), true},
		{"to is zero", at(1), api.Snapshot{}, false},
		{"both are zero", api.Snapshot{}, api.Snapshot{}, false},
		{"the greatest Max", at(5), at(far), true},
		{"the greatest Max twice", at(far), at(far), false},
		{"the greatest Max twice, open in from", at(far, 5), at(far), true},
		{"the least Max", at(deep), at(far), true},
		{"the least Max, the other way", at(far), at(deep), false},
		{"beyond its Max an open one counts no more", at(4, 5), at(9), true},
		{"from's Open falls", at(9, 8, 5, 2), at(9), true},
		{"to's Open falls", at(1), at(9, 8, 5, 2), false},
		{"from's Open has like ones", at(9, 5, 5), at(9), true},
		{"to's Open has like ones of others", at(1), at(9, 4, 4, 6, 6), true},
		{"from's Open has what no number is", at(9, deep, -5, 0, far), at(9), false},
		{"to's Open has what no number is", at(1), at(9, deep, -5, 0, far), true},
	} {
		q := question{made(t, "aaaac"), c.from, c.to, ""}
		var places []int
		if c.want {
			places = []int{0}
		}
		t.Run(c.name, func(t *testing.T) { q.tells(t, e, places...) })
	}
}

// All pairs of small snapshots, and each transaction there is: just those that to sees and from doesn't.
func TestOfAllSmallSnapshots(t *testing.T) {
	l := evs("1.1 2.2 3.3 4.4 5.5 6.6")
	m := made(t, "cccccc")
	snapshots := right(6)
	for _, from := range snapshots {
		for _, to := range snapshots {
			var places []int
			for i := range l {
				if x := int64(i) + 1; saw(to, x) && !saw(from, x) {
					places = append(places, i)
				}
			}
			question{m, from, to, "a"}.tells(t, l, places...)
		}
	}
}

// Any snapshots, Right or not, of transactions near to the edges.
func TestOfAnySnapshots(t *testing.T) {
	l := evs("1.1 2.2 3.3 4.4 5.5 6.6 7.8 8.9 9.0 10.1048575 11.1048576")
	m := txn.New()
	if e := m.Load(api.MaxTxid, []int64{1, 2, 3, 4, 5, 8, 9, api.MaxTxid - 1}); e != api.OK {
		t.Fatal(e)
	}
	for _, from := range anyone() {
		for _, to := range anyone() {
			var places []int
			for i, e := range l {
				if m.State(e.Tx) == txn.Committed && saw(to, e.Tx) && !saw(from, e.Tx) {
					places = append(places, i)
				}
			}
			question{m, from, to, ""}.tells(t, l, places...)
		}
	}
}

// One behind the other, each tick's snapshot: each event is told between just two of them.
func TestOfIsCutByTicks(t *testing.T) {
	l := evs("1.1 2.2 3.3 4.4 5.5 6.1 7.2 8.3 9.4 10.5")
	m := made(t, "ccccc")
	ticks := []api.Snapshot{at(1), at(2), at(4, 2), at(4, 2), at(5, 4), at(6)}
	var told []api.Event
	for i := range len(ticks) - 1 {
		told = append(told, batch.Of(l, m, ticks[i], ticks[i+1], "")...)
	}
	alike(t, told, chosen(l, 0, 5, 2, 7, 1, 6, 3, 4, 8, 9))
}

// Whichever way a list stands: by the IDs, rising, and of like ones as they stand.
func TestOfEachOrder(t *testing.T) {
	words := []string{"2.1", "2.2", "1.2", "3.1", "2.3", "1.1"}
	q := question{made(t, "ccc"), at(1), at(4), ""}
	permute(words, 0, func() {
		l := evs(strings.Join(words, " "))
		var places []int
		for id := int64(1); id <= 3; id++ {
			for i, e := range l {
				if e.ID == id {
					places = append(places, i)
				}
			}
		}
		q.tells(t, l, places...)
	})
}

// permute calls f with each order of the words from the i-th on.
func permute(words []string, i int, f func()) {
	if i == len(words) {
		f()
		return
	}
	for j := i; j < len(words); j++ {
		words[i], words[j] = words[j], words[i]
		permute(words, i+1, f)
		words[i], words[j] = words[j], words[i]
	}
}

// Numbers so far apart that what lies between them is no int64, or no number of fewer bits.
func TestOfIDsOfAnySize(t *testing.T) {
	ids := []int64{deep, deep + 1, -1 << 32, -1<<31 - 1, -2, -1, 0, 1, 2, 9, 10, 1<<31 - 1, 1 << 31, 1 << 32, 1<<32 + 1, far - 1, far}
	q := question{made(t, "c"), at(1), at(2), ""}
	for n := range len(ids) * 2 {
		var l []api.Event
		for i := range ids {
			l = append(l, api.Event{ID: ids[(i*n+n)%len(ids)], Tx: 1, Tries: i})
		}
		got := batch.Of(l, q.m, q.from, q.to, q.owner)
		if len(got) != len(l) {
			t.Fatal(n, short(got))
		}
		for i := range len(got) - 1 {
			if a, b := got[i], got[i+1]; a.ID > b.ID || a.ID == b.ID && a.Tries > b.Tries {
				t.Fatal(n, a, b)
			}
		}
	}
}

// Of very many with few IDs, too, like ones stay as they stand.
func TestOfManyLikeOnes(t *testing.T) {
	const many, ids = 20000, 7
	var l []api.Event
	var places []int
	for i := range many {
		l = append(l, api.Event{ID: int64(i * 5 % ids), Tx: int64(1 + i%4), Row: api.Row{Key: int64(i)}})
	}
	for id := range int64(ids) {
		for i, e := range l {
			if e.ID == id && e.Tx%2 == 1 {
				places = append(places, i)
			}
		}
	}
	question{made(t, "cacoo"), at(1), at(9), "a"}.tells(t, l, places...)
}

// All that an event has is told, whatever it is; and what may not be is held against nothing.
func TestOfTellsEventsAsTheyAre(t *testing.T) {
	l := anyEvents()
	slices.SortStableFunc(l, func(a, b api.Event) int { return strings.Compare(order(a.ID), order(b.ID)) })
	letters := "ccaoc"
	m := made(t, letters)
	for _, owner := range []string{"", "a", api.Replica, strings.Repeat("t", api.MaxText), "nobody"} {
		var places []int
		for i, e := range l {
			if (e.Owner == "" || e.Owner == owner) && letter(letters, e.Tx) == 'c' && e.Tx > 1 {
				places = append(places, i)
			}
		}
		if len(places) == 0 {
			t.Fatal(owner)
		}
		question{m, at(2), at(far), owner}.tells(t, l, places...)
	}
}

// order is a number's text, which rises as the number does.
func order(n int64) string {
	text := strconv.FormatUint(uint64(n)^1<<63, 16)
	return strings.Repeat("0", 16-len(text)) + text
}

func TestOfNothing(t *testing.T) {
	m := made(t, "cao")
	for _, l := range [][]api.Event{nil, {}, make([]api.Event, 0, 9)} {
		for _, owner := range []string{"", "a"} {
			question{m, at(1), at(4), owner}.tells(t, l)
			question{nil, at(1), at(4), owner}.tells(t, l)
			question{}.tells(t, l)
		}
	}
}

func TestOfNothingIsLeft(t *testing.T) {
	for name, q := range map[string]question{
		"all are another one's": {made(t, "c"), at(1), at(2), "b"},
		"all are nobody's":      {made(t, "c"), at(1), at(2), ""},
		"it is open":            {made(t, "o"), at(1), at(2), "a"},
		"it was aborted":        {made(t, "a"), at(1), at(2), "a"},
		"it never was":          {made(t, ""), at(1), at(2), "a"},
		"from sees it":          {made(t, "c"), at(2), at(2), "a"},
		"to doesn't":            {made(t, "c"), at(1), at(1), "a"},
		"no manager":            {nil, at(1), at(2), "a"},
	} {
		for n := range 4 {
			l := evs(strings.Repeat("3.1a ", n))
			t.Run(name, func(t *testing.T) { q.tells(t, l) })
			if got := batch.Of(l, q.m, q.from, q.to, q.owner); len(got) != 0 {
				t.Error(name, n, short(got))
			}
		}
	}
	question{made(t, "c"), at(1), at(2), "a"}.tells(t, evs("3.1a"), 0)
}

// One that is left, wherever it stands among those that aren't.
func TestOfOneIsLeft(t *testing.T) {
	q := question{made(t, "cao"), at(1), at(9), "a"}
	for n := range 9 {
		for i := range n + 1 {
			words := slices.Repeat([]string{"3.1b", "4.2a", "5.3", "6.4"}, 3)[:n]
			words = slices.Insert(words, i, "5.1a")
			q.tells(t, evs(strings.Join(words, " ")), i)
		}
	}
}

func TestOfNilManager(t *testing.T) {
	for _, from := range anyone() {
		for _, owner := range []string{"", "a", api.Replica} {
			question{nil, from, at(far), owner}.tells(t, anyEvents()[:60])
		}
	}
}
