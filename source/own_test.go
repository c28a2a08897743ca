package source_test

import (
	"fmt"
	"slices"
	"testing"

	"carrier/api"
	"carrier/rel"
	"carrier/snap"
	"carrier/source"
)

// overwrite writes into a list, and into the room that it has behind it.
func overwrite[X any](l []X, over X) {
	l = l[:cap(l)]
	for i := range l {
		l[i] = over
	}
}

var overRow, overEvent = row(77, "over"), api.Event{ID: 77, Tx: 1, Owner: "over", Tries: 7, Table: 7, Kind: 7, Row: row(77, "over")}

// What a call answers may be written over: neither the source nor what it remembers is another one.
func TestAnswersMayBeWrittenOver(t *testing.T) {
	d, s := made(t, "b i1.0.5=a i1.0.6=b i1.1.7=c c1 b")
	was := tell(s)
	for _, st := range []rel.Stmt{stmt(rel.Scan, 0, 0, ""), stmt(rel.Get, 0, 5, "")} {
		l, _ := s.Run(2, st)
		m, _ := s.Run(2, st)
		want := slices.Clone(m)
		overwrite(l, overRow)
		if !slices.Equal(m, want) {
			t.Error("two answers share", m)
		}
		is(t, s, was)
	}
	l, m := s.Rows(0, was.now), s.Rows(0, was.now)
	overwrite(l, overRow)
	if !slices.Equal(m, []api.Row{row(5, "a"), row(6, "b")}) {
		t.Error("two answers share", m)
	}
	is(t, s, was)
	l, _ = s.Run(2, stmt(api.Truncate, 0, 0, ""))
	overwrite(l, overRow)
	play(t, s, "c2")
	if got := logged(t, d)[1]; len(got.Ops) != 2 || got.Ops[0] != gone(0, 5, "a") || got.Ops[1] != gone(0, 6, "b") || got.Events[1].Event != event(5, 2, 0, 4, 6, "") {
		t.Error(got)
	}
	has(t, s, 0)
	stand(t, s, "1.1:i0.5=a 2.1:i0.6=b 3.1:i1.7=c 4.2:z0.5= 5.2:z0.6=", "", "")
}

func TestTicksMayBeWrittenOver(t *testing.T) {
	d, s := made(t, "t1 +a b b c1 b")
	x, _ := s.Tick(2)
	over := func(x api.Tick) { overwrite(x.Snap.Open, 1) }
	over(x)
	is(t, open(t, twin(d), 3, 2), func() told { o := newModel(3, 2, 1000).again(logged(t, d)); return o.tell() }())
	y, _ := s.Next("a")
	over(y)
	kept, _ := s.Queue().Ticks().Get(2)
	over(kept)
	kept, _ = s.Queue().Ticks().Get(2)
	if !snap.Same(kept.Snap, at(4, 2, 3)) || !snap.Same(logged(t, d)[3].Tick.Snap, at(4, 2, 3)) {
		t.Error(kept)
	}
	now := s.Manager().Now()
	overwrite(now.Open, 1)
	if !snap.Same(s.Manager().Now(), at(4, 2, 3)) {
		t.Error(s.Manager().Now())
	}
	play(t, s, "b i4.0.5=x c4 b") // the views of those who are open have snapshots of their own
	z, _ := s.Tick(3)
	over(z)
	sees(t, s, 2, 0)
	sees(t, s, 5, 0, row(5, "x"))
}

func TestBatchesMayBeWrittenOver(t *testing.T) {
	d, s := made(t, "t1 +a b i1.0.5=a u1.0.5=b d1.0.5 c1 t2 >a !a.2.5")
	was := tell(s)
	l, _ := s.Batch("a")
	m, _ := s.Batch("a")
	overwrite(l, overEvent)
	if words(m) != "1.1:i0.5=a 2.1:u0.5=b 3.1:d0.5=" {
		t.Error("two answers share", words(m))
	}
	is(t, s, was)
	is(t, open(t, d, 3, 2), was)
}

// A snapshot that is handed in isn't written into, nor what it has room for behind it.
func TestSnapshotsStay(t *testing.T) {
	_, s := made(t, "b i1.0.5=a c1 b u2.0.5=b c2")
	whole := []int64{2, 1, 2, 9, -1}
	was := slices.Clone(whole)
	for n := range len(whole) + 1 {
		l := s.Rows(0, api.Snapshot{Max: 3, Open: whole[:n]})
		if !slices.Equal(whole, was) {
			t.Fatal(whole)
		}
		if want := []string{"[{5 b}]", "[{5 a}]", "[]"}[min(n, 2)]; fmt.Sprint(l) != want {
			t.Fatal(n, l, want)
		}
	}
}

// The queue and the manager are the same ones at all times: what the source's calls do is seen there.
func TestObjectsWithinAreTheSourcesOwn(t *testing.T) {
	_, s := made(t, "")
	q, m := s.Queue(), s.Manager()
	play(t, s, "b i1.0.5=a c1 t1 +a b i2.0.6=b o c2 t2 >a !a.2.5 <a m5 k v b x4")
	if q.Ticks().Last() != 2 || len(q.Cursors().All()) != 1 || q.Spools().Cur() != 1 || q.Spools().Len() != 3 || m.Next() != 5 {
		t.Error(q.Ticks().Last(), q.Spools().Len(), m.Next())
	}
	if s.Queue() != q || s.Manager() != m {
		t.Error("other ones")
	}
}

// Two sources share nothing.
func TestSourcesShareNothing(t *testing.T) {
	_, a := made(t, "b i1.0.5=a")
	d, b := made(t, "")
	is(t, b, func() told { o := newModel(3, 2, 1000); return o.tell() }())
	play(t, b, "b b i2.0.7=b c2 t1 +a")
	sees(t, a, 1, 0, row(5, "a"))
	if a.Manager() == b.Manager() || a.Queue() == b.Queue() {
		t.Error("one for both")
	}
	play(t, a, "c1")
	has(t, b, 0, row(7, "b"))
	has(t, open(t, d, 3, 2), 0, row(7, "b"))
}

// Asking changes nothing, and is in no log.
func TestAskingChangesNothing(t *testing.T) {
	d, s := made(t, "t1 +a b i1.0.5=a c1 t2 >a b i2.0.6=b")
	keeps(t, d, s, func() {
		for range 3 {
			s.Batch("a")
			s.Batch("b")
			s.Rows(0, at(2))
			s.Queue().Free()
			s.Manager().Now()
			s.Size()
			s.Run(2, stmt(rel.Scan, 0, 0, ""))
			s.Run(2, stmt(rel.Get, 0, 5, ""))
			s.Maint(9)
		}
	})
}

func TestOfANilSource(t *testing.T) {
	var s *source.Source
	x, a := s.Begin()
	rows, b := s.Run(1, stmt(rel.Scan, 0, 0, ""))
	tick, c := s.Tick(5)
	next, e := s.Next("a")
	l, f := s.Batch("a")
	n, g := s.Finish("a")
	m, h := s.Maint(5)
	r, i := s.Rotate()
	k, j := s.Trim()
	for i, e := range []api.Errno{a, b, c, e, f, g, h, i, j, s.Commit(1), s.Stage(1), s.Abort(1), s.Register("a"), s.Register(""), s.Unregister("a"), s.Retry("a", 1, 1)} {
		if e != api.ErrNone {
			t.Error(i, e)
		}
	}
	for _, st := range []rel.Stmt{{}, stmt(api.Insert, 9, 1, letters("x", 41)), stmt(api.Truncate, -1, 0, "")} {
		if rows, e := s.Run(0, st); rows != nil || e != api.ErrNone {
			t.Error(rows, e)
		}
	}
	if x != 0 || rows != nil || tick.N != 0 || tick.Snap.Max != 0 || next.N != 0 || l != nil || n != 0 || m != 0 || r != 0 || k != 0 {
		t.Error(x, rows, tick, next, l, n, m, r, k)
	}
	if s.Vacuum() != 0 || s.Rows(0, at(5)) != nil || s.Queue() != nil || s.Manager() != nil || s.Size() != 0 {
		t.Error("of nil")
	}
}
