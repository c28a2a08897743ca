package spool_test

import (
	"testing"

	"carrier/api"
	"carrier/spool"
)

// anySpools are makers of spools of all kinds, by names.
func anySpools(t *testing.T) map[string]func() *spool.Spools {
	all := map[string]func() *spool.Spools{
		"nil":       func() *spool.Spools { return nil },
		"just made": spool.New,
		"any events": func() *spool.Spools {
			s := spool.New()
			for n, e := range anyEvents() {
				s.AddTo(n%3, e)
			}
			return s
		},
	}
	for _, text := range []string{"* a5 | | ", " | | * a5", "* | b6 | c7", "a5 | * b6 | ", "* a5 | b6 | c7", "a5 | b6 | * c7"} {
		all[text] = func() *spool.Spools { return made(t, text) }
	}
	return all
}

// anyNumbers are numbers on all edges.
func anyNumbers() []int64 {
	l := []int64{deep, deep + 1, -1 << 32, -2, -1, 0, 1, 2, 3, 4, 5, api.MaxTxid, 1 << 32, far - 1, far}
	for _, i := range elsewhere() {
		l = append(l, int64(i))
	}
	return l
}

// Of any spools, whatever they are told, each call ends, and tells what it may.
func TestAnyCall(t *testing.T) {
	for name, made := range anySpools(t) {
		s := made()
		for _, n := range anyNumbers() {
			there := n >= 0 && n < 3
			before := s.Len()
			if l := s.List(int(n)); len(l) > before || !there && len(l) > 0 {
				t.Fatal(name, n, short(l))
			}
			want := api.OK
			switch {
			case s == nil:
				want = api.ErrNone
			case !there:
				want = api.ErrArg
			}
			if err := s.AddTo(int(n), api.Event{ID: n, Tx: -n, Table: int(n)}); err != want {
				t.Fatal(name, n, err)
			}
			s.Add(api.Event{ID: -n, Tx: n})
			if gone := s.Forget(n); s != nil && gone < 1 {
				t.Fatal(name, n, gone)
			}
			if gone := s.Forget(n); gone != 0 {
				t.Fatal(name, n, gone)
			}
			for _, free := range []bool{false, true, false, true, true, true, false} {
				s.Rotate(free)
			}
			if cur := s.Cur(); cur < 0 || cur > 2 {
				t.Fatal(name, n, cur)
			}
			if len(s.All()) != s.Len() || len(s.Next()) > s.Len() {
				t.Fatal(name, n, short(s.All()))
			}
		}
	}
}

// Rotate again and again, of one kind alone: with true nothing is left at last, with false all stays.
func TestRotateAgainAndAgain(t *testing.T) {
	for name, made := range anySpools(t) {
		s := made()
		for range 10000 {
			s.Rotate(true)
		}
		if s.Len() != 0 {
			t.Error(name, short(s.All()))
		}
		s = made()
		was := s.Len()
		for range 10000 {
			s.Rotate(false)
		}
		if s.Len() != was {
			t.Error(name, short(s.All()))
		}
	}
}

// As many events as no table here ever comes to have: the calls end all the same.
func TestVeryMany(t *testing.T) {
	const n = 200000
	s := spool.New()
	for i := range n {
		s.AddTo(i%3, api.Event{ID: int64(n - i), Tx: int64(i % 2)})
	}
	for i, e := range s.All() {
		if e.ID != int64(i+1) {
			t.Fatal(i, e)
		}
	}
	forgets(t, s, 1, n/2)
	forgets(t, s, 1, 0)
	if s.Len() != n/2 {
		t.Error(s.Len())
	}
	rotates(t, s, true, 1, api.OK)
	rotates(t, s, true, 2, api.OK)
}
