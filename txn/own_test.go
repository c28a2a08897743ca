package txn_test

import (
	"slices"
	"testing"

	"carrier/api"
	"carrier/snap"
	"carrier/txn"
)

func TestLoadKeepsNotWhatItWasHanded(t *testing.T) {
	m := txn.New()
	committed := []int64{1, 3, 4}
	m.Load(6, committed)
	is(t, m, "cacca")
	copy(committed, []int64{2, 5, 9})
	is(t, m, "cacca")
	begin(t, m, 6)
	m.Commit(6)
	clear(committed)
	is(t, m, "caccac")
}

// Neither the list itself is written into, nor what it has room for behind it.
func TestLoadWritesNotIntoWhatItWasHanded(t *testing.T) {
	whole := []int64{5, 2, 2, 4, 1, 9, 0, -3}
	was := slices.Clone(whole)
	for n := range len(whole) + 1 {
		m := made(t, "oco")
		for next := int64(0); next <= 10; next++ {
			m.Load(next, whole[:n])
			m.Begin()
			m.Commit(next)
			m.Now()
		}
	}
	if !slices.Equal(whole, was) {
		t.Error(whole)
	}
}

func TestNowIsTheCallers(t *testing.T) {
	m := made(t, "ocooac")
	a, b := m.Now(), m.Now()
	copy(a.Open, []int64{7, 8, 9})
	if !slices.Equal(b.Open, []int64{1, 3, 4}) {
		t.Errorf("two answers share: %v", b)
	}
	is(t, m, "ocooac")
	clear(b.Open[:cap(b.Open)])
	is(t, m, "ocooac")
	m.Commit(3)
	begin(t, m, 7)
	is(t, m, "occoaco")
	if a.Max != 7 || !slices.Equal(a.Open, []int64{7, 8, 9}) {
		t.Error(a)
	}
}

func TestRoomBehindNowIsTheCallers(t *testing.T) {
	m := made(t, "ooo")
	a, b := m.Now(), m.Now()
	a.Open = append(a.Open, 7)
	b.Open = append(b.Open, 8)
	begin(t, m, 4)
	if !slices.Equal(a.Open, []int64{1, 2, 3, 7}) || !slices.Equal(b.Open, []int64{1, 2, 3, 8}) {
		t.Error(a, b)
	}
	is(t, m, "oooo")
}

func TestNowStaysAsItWas(t *testing.T) {
	m := made(t, "oco")
	was := m.Now()
	begin(t, m, 4)
	m.Commit(1)
	m.Abort(3)
	m.Load(9, []int64{3})
	if !snap.Same(was, api.Snapshot{Max: 4, Open: []int64{1, 3}}) {
		t.Error(was)
	}
}

// What was answered may be handed in again.
func TestLoadOfNow(t *testing.T) {
	m := made(t, "oacoo")
	now := m.Now()
	if e := m.Load(now.Max, now.Open); e != api.OK {
		t.Error(e)
	}
	is(t, m, "caacc")
	clear(now.Open)
	is(t, m, "caacc")
}

func TestManagersShareNothing(t *testing.T) {
	a, b := txn.New(), txn.New()
	begin(t, a, 1)
	begin(t, a, 2)
	is(t, b, "")
	begin(t, b, 1)
	a.Commit(1)
	b.Abort(1)
	is(t, a, "co")
	is(t, b, "a")
	committed := []int64{2}
	a.Load(4, committed)
	b.Load(4, committed)
	begin(t, a, 4)
	a.Commit(4)
	is(t, b, "aca")
	begin(t, b, 4)
	b.Abort(4)
	is(t, a, "acac")
	is(t, b, "acaa")
}

// A manager goes by what it was told alone: one that was told the same answers the same.
func TestToldTheSame(t *testing.T) {
	for range 50 {
		a, b := made(t, "oaocoaoco"), made(t, "oaocoaoco")
		if !slices.Equal(a.Now().Open, b.Now().Open) || !slices.Equal(a.Now().Open, a.Now().Open) {
			t.Fatal(a.Now(), b.Now())
		}
	}
}
