package batch_test

import (
	"slices"
	"testing"

	"carrier/api"
	"carrier/batch"
	"carrier/snap"
	"carrier/txn"
)

// spare is an event that stands in the room behind a list.
var spare = api.Event{ID: 77, Tx: 1, Row: api.Row{Text: "spare"}}

// roomy is a list with room behind it, in which spare ones stand; and that list with all its room.
func roomy(l []api.Event, room int) (part, whole []api.Event) {
	whole = append(slices.Clone(l), slices.Repeat([]api.Event{spare}, room)...)
	return whole[:len(l)], whole
}

// asks makes all calls of a list, with two snapshots.
func asks(l []api.Event, m *txn.Manager, from, to api.Snapshot) {
	for _, owner := range []string{"", "a"} {
		batch.Of(l, m, from, to, owner)
	}
	for _, s := range [][]api.Snapshot{nil, {from}, {to, from}} {
		batch.Free(l, m, s)
		for _, e := range l {
			batch.Needs(e, m, s)
		}
	}
}

// lists are such of which all is told, some, none; that rise already, that fall, with like ones.
func lists() []string {
	return []string{"", "1.1", "1.1 2.1 3.4", "3.1 2.1 1.4", "2.4 2.1 2.1", "9.2 8.3 7.6", "3.2 3.1a 1.3 2.1b 1.1 0.4", "1.1 5.2 2.1", "5.2 4.1", "4.1 5.2"}
}

// Neither a list is written into, nor what it has room for behind it.
func TestListsThatAreHandedInStay(t *testing.T) {
	m := made(t, "caoc")
	for _, words := range lists() {
		for room := range 4 {
			part, whole := roomy(evs(words), room)
			was := slices.Clone(whole)
			for _, s := range []api.Snapshot{at(1), at(5), at(5, 1), at(far), {}} {
				asks(part, m, s, at(9))
				asks(part, m, at(1), s)
				asks(part, nil, at(1), s)
				alike(t, whole, was)
			}
		}
	}
}

func TestSnapshotsThatAreHandedInStay(t *testing.T) {
	l := evs("4.1 3.2 2.3 1.4")
	for _, open := range [][]int64{{1, 2, 3, 4, 5, 6}, {6, 5, 4, 3, 2, 1}, {3, 3, 0, -1, 9, 2}} {
		one, other := slices.Clone(open), slices.Clone(open)
		for n := range len(open) + 1 {
			for k := range len(open) + 1 {
				from, to := api.Snapshot{Max: 7, Open: one[:n]}, api.Snapshot{Max: 6, Open: other[:k]}
				s := []api.Snapshot{from, to, at(2), at(9)}
				was := []api.Snapshot{kept(from), kept(to), at(2), at(9)}
				asks(l, made(t, "caoc"), from, to)
				asks(l, made(t, "caoc"), to, from)
				batch.Free(l, made(t, "caac"), s[:3])
				batch.Needs(l[0], made(t, "caac"), s[:2])
				if !same(s, was) {
					t.Fatal(s, was)
				}
			}
		}
		if !slices.Equal(one, open) || !slices.Equal(other, open) {
			t.Fatal(one, other, open)
		}
	}
}

func TestManagersThatAreHandedInStay(t *testing.T) {
	letters := "caocoac"
	m := made(t, letters)
	now := m.Now()
	for _, s := range anyone()[:40] {
		asks(evs("1.1 2.2 3.3 4.4 5.5 6.6 7.7 8.8 9.0 10.-1"), m, s, at(far))
	}
	if !snap.Same(m.Now(), now) {
		t.Fatal(m.Now(), now)
	}
	for x := range int64(10) {
		want := map[byte]byte{'o': txn.Open, 'c': txn.Committed, 'a': txn.Aborted, ' ': txn.None}[letter(letters, x)]
		if m.State(x) != want {
			t.Error(x, m.State(x), want)
		}
	}
	if x, e := m.Begin(); x != 8 || e != api.OK {
		t.Error(x, e)
	}
}

// What Of tells is the caller's: neither what was handed in nor another answer is written over with it.
func TestAnswersMayBeWrittenOver(t *testing.T) {
	for _, words := range lists() {
		for room := range 4 {
			part, whole := roomy(evs(words), room)
			was := slices.Clone(whole)
			q := question{made(t, "caoc"), at(1), at(9), "a"}
			first := batch.Of(part, q.m, q.from, q.to, q.owner)
			second := batch.Of(part, q.m, q.from, q.to, q.owner)
			want := slices.Clone(second)
			overwrite(first)
			alike(t, whole, was)
			alike(t, second, want)
			longer := append(second, spare, spare, spare)
			alike(t, whole, was)
			alike(t, longer[:len(want)], want)
			alike(t, batch.Of(part, q.m, q.from, q.to, q.owner), want)
		}
	}
}

// overwrite writes into a list, and into the room that it has behind it.
func overwrite(l []api.Event) {
	l = l[:cap(l)]
	for i := range l {
		l[i] = spare
	}
}

// What was answered stays as it was, whatever becomes of what had been handed in.
func TestAnswersStay(t *testing.T) {
	for _, words := range lists() {
		part, whole := roomy(evs(words), 3)
		open := []int64{1, 4}
		m := made(t, "caoc")
		got := batch.Of(part, m, api.Snapshot{Max: 5, Open: open}, at(9), "a")
		want := slices.Clone(got)
		clear(whole)
		clear(open)
		m.Load(1, nil)
		alike(t, got, want)
	}
}

// Each call goes by what it was handed just then: nothing is kept from another one.
func TestNothingIsKept(t *testing.T) {
	m := made(t, "cc")
	l := evs("2.1 1.2")
	s := []api.Snapshot{at(3, 1), at(3)}
	q := question{m, s[0], at(3), ""}
	q.tells(t, l, 0)
	frees(t, l, m, s, false)
	needs(t, l[0], m, s, true)
	s[0].Open[0] = 2
	q.tells(t, l, 1)
	needs(t, l[0], m, s, false)
	needs(t, l[1], m, s, true)
	l[1].Tx = 1
	q.tells(t, l)
	frees(t, l, m, s, true)
	q.m = made(t, "oc")
	q.tells(t, l)
	frees(t, l, q.m, s, false)
	frees(t, l, m, s, true)
	l[0] = api.Event{ID: 5, Tx: 2}
	s[0], s[1] = at(3), at(2)
	q.tells(t, l, 0)
	frees(t, l, m, s, false)
}

// One list may be both snapshots' Open, and stand in a list of snapshots more than once.
func TestListsMayBeShared(t *testing.T) {
	m := made(t, "cccc")
	open := []int64{2, 4}
	from, to := api.Snapshot{Max: 5, Open: open}, api.Snapshot{Max: 5, Open: open[:1]}
	l := evs("4.1 3.2 2.3 1.4")
	question{m, from, to, ""}.tells(t, l, 3)
	question{m, to, from, ""}.tells(t, l)
	question{m, from, from, ""}.tells(t, l)
	s := []api.Snapshot{to, to, from, from}
	frees(t, l, m, s, false)
	frees(t, chosen(l, 0, 2), m, s, true)
	frees(t, chosen(l, 3), m, s[:2], true)
	if !slices.Equal(open, []int64{2, 4}) {
		t.Error(open)
	}
}
