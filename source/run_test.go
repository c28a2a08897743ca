package source_test

import (
	"fmt"
	"math"
	"slices"
	"strings"
	"testing"

	"carrier/api"
	"carrier/block"
	"carrier/rel"
	"carrier/snap"
	"carrier/source"
)

// runs tells a fault if a statement tells other rows, or another error, or if its events are other ones than those of
// these words; it lays no byte into the log.
func runs(t *testing.T, d *block.Device, s *source.Source, x int64, st rel.Stmt, rows []api.Row, want api.Errno, events string) {
	t.Helper()
	bytes, before, id := content(d), s.Queue().Spools().All(), s.Queue().NextID()
	got, e := s.Run(x, st)
	if e != want || !slices.Equal(got, rows) || e != api.OK && got != nil {
		t.Fatalf("%v: %v, %d, not %v, %d", st, got, e, rows, want)
	}
	all := s.Queue().Spools().All()
	if !slices.Equal(all[:len(before)], before) || words(all[len(before):]) != events {
		t.Fatalf("%v: %s, not %s", st, words(all[len(before):]), events)
	}
	if n := s.Queue().NextID() - id; n != int64(len(all)-len(before)) {
		t.Fatal(st, n)
	}
	if content(d) != bytes || d.Waiting() != 0 {
		t.Fatal(st, "is in the log")
	}
}

func TestBegin(t *testing.T) {
	d, s := made(t, "")
	bytes := content(d)
	for n := range int64(api.MaxOpen) {
		if x, e := s.Begin(); x != n+1 || e != api.OK {
			t.Fatal(x, e)
		}
		want := at(n + 2)
		for x := range n + 1 {
			want.Open = append(want.Open, x+1)
		}
		if now := s.Manager().Now(); !snap.Same(now, want) {
			t.Fatal(now)
		}
	}
	refuses(t, d, s, api.ErrFull, func() api.Errno {
		x, e := s.Begin()
		if x != 0 {
			t.Error(x)
		}
		return e
	})
	play(t, s, "x3 b")
	if s.Manager().State(7) != 1 || content(d) != bytes || s.Size() != 0 {
		t.Error("Begin is in the log")
	}
}

func TestBeginWithoutANumberLeft(t *testing.T) {
	d, s := made(t, "b i1.0.5=a c1")
	for x := int64(2); x < api.MaxTxid; x++ {
		if y, e := s.Begin(); x != y || e != api.OK || s.Abort(x) != api.OK {
			t.Fatal(x, y, e)
		}
	}
	if x, e := s.Begin(); x != 0 || e != api.ErrFull {
		t.Error(x, e)
	}
	play(t, s, "t5")
	if s = open(t, d, 3, 2); s.Manager().Next() != api.MaxTxid || s.Manager().State(api.MaxTxid-1) != 3 {
		t.Error(s.Manager().Next())
	}
	refusesAll(t, d, s, api.ErrFull, "b")
	has(t, s, 0, row(5, "a"))
}

// What a transaction sees is what was committed ahead of its begin, and what it does itself.
func TestWhatOneSees(t *testing.T) {
	_, s := made(t, "b i1.0.5=a i1.2.6=b c1 b b i2.0.7=c u2.0.5=d d2.2.6")
	sees(t, s, 2, 0, row(5, "d"), row(7, "c"))
	sees(t, s, 2, 2)
	sees(t, s, 3, 0, row(5, "a"))
	sees(t, s, 3, 2, row(6, "b"))
	has(t, s, 0, row(5, "a"))
	play(t, s, "i3.0.8=e b")
	sees(t, s, 4, 0, row(5, "a"))
	play(t, s, "c2 b")
	sees(t, s, 3, 0, row(5, "a"), row(8, "e"))
	sees(t, s, 3, 2, row(6, "b"))
	sees(t, s, 4, 0, row(5, "a"))
	sees(t, s, 5, 0, row(5, "d"), row(7, "c"))
	sees(t, s, 5, 2)
	has(t, s, 0, row(5, "d"), row(7, "c"))
	play(t, s, "x3 b")
	sees(t, s, 6, 0, row(5, "d"), row(7, "c"))
	sees(t, s, 4, 0, row(5, "a"))
	if l, e := s.Run(4, stmt(rel.Get, 0, 5, "")); e != api.OK || !slices.Equal(l, []api.Row{row(5, "a")}) {
		t.Error(l, e)
	}
	if l, e := s.Run(4, stmt(rel.Get, 0, 7, "")); e != api.ErrNone || l != nil {
		t.Error(l, e)
	}
}

// Each Kind of statement in a table that is traced: its events are of its Kind, one for each row, in order.
func TestEventsOfATracedTable(t *testing.T) {
	for table := range 2 {
		d, s := made(t, "b")
		in := func(text string) string { return strings.ReplaceAll(text, "T", fmt.Sprint(table)) }
		do := func(kind byte, key int64, text string, rows []api.Row, e api.Errno, events string) {
			t.Helper()
			runs(t, d, s, 1, stmt(kind, table, key, text), rows, e, in(events))
		}
		do(api.Insert, 5, "a", nil, api.OK, "1.1:iT.5=a")
		do(api.Insert, 7, "", nil, api.OK, "2.1:iT.7=")
		do(api.Insert, -3, letters("x", 40), nil, api.OK, "3.1:iT.-3="+letters("x", 40))
		do(api.Update, 5, "b", nil, api.OK, "4.1:uT.5=b")
		do(api.Update, 5, "b", nil, api.OK, "5.1:uT.5=b")
		do(rel.Get, 5, "z", []api.Row{row(5, "b")}, api.OK, "")
		do(rel.Scan, 5, "z", []api.Row{row(-3, letters("x", 40)), row(5, "b"), row(7, "")}, api.OK, "")
		do(api.Delete, 5, "a text", nil, api.OK, "6.1:dT.5=")
		do(api.Insert, 5, "c", nil, api.OK, "7.1:iT.5=c")
		do(api.Truncate, 9, "a text", []api.Row{row(-3, letters("x", 40)), row(5, "c"), row(7, "")}, api.OK, "8.1:zT.-3= 9.1:zT.5= 10.1:zT.7=")
		do(api.Truncate, 9, "", nil, api.OK, "")
		do(rel.Scan, 0, "", nil, api.OK, "")
		do(api.Delete, 5, "", nil, api.ErrNone, "")
		do(api.Update, 5, "", nil, api.ErrNone, "")
		do(rel.Get, 5, "", nil, api.ErrNone, "")
		do(api.Insert, math.MinInt64, "", nil, api.OK, "11.1:iT.-9223372036854775808=")
		do(api.Insert, math.MinInt64, "", nil, api.ErrDup, "")
		do(api.Insert, far, letters("x", 41), nil, api.ErrArg, "")
		do(api.Update, deep, letters("x", 41), nil, api.ErrArg, "")
		do(api.Delete, deep, letters("x", 41), nil, api.OK, "12.1:dT.-9223372036854775808=")
	}
}

func TestNoEventsOfAnUntracedTable(t *testing.T) {
	for traced := range 4 {
		d := block.New(300)
		s := open(t, d, 4, traced)
		play(t, s, "b")
		for table := traced; table < 4; table++ {
			for i, kind := range []byte{api.Insert, api.Update, api.Delete, api.Insert} {
				runs(t, d, s, 1, stmt(kind, table, 5, fmt.Sprint(i)), nil, api.OK, "")
			}
			runs(t, d, s, 1, stmt(api.Truncate, table, 0, ""), []api.Row{row(5, "3")}, api.OK, "")
			runs(t, d, s, 1, stmt(api.Insert, table, 6, "left"), nil, api.OK, "")
			sees(t, s, 1, table, row(6, "left"))
		}
		play(t, s, "c1")
		s = open(t, d, 4, traced)
		for table := traced; table < 4; table++ {
			has(t, s, table, row(6, "left"))
		}
	}
}

// Events stand in the current spool of the moment, by IDs of all who are open together.
func TestEventsOfSeveral(t *testing.T) {
	_, s := made(t, "b b i1.0.5=a i2.0.6=b o i2.1.5=c i1.2.5=d u1.0.5=e o d2.1.5 z1.0")
	stand(t, s, "1.1:i0.5=a 2.2:i0.6=b", "3.2:i1.5=c 4.1:u0.5=e", "5.2:d1.5= 6.1:z0.5=")
	play(t, s, "x1 i2.0.5=f")
	stand(t, s, "2.2:i0.6=b", "3.2:i1.5=c", "5.2:d1.5= 7.2:i0.5=f")
}

// A statement that fails does nothing, and writes nothing.
func TestStatementsThatFail(t *testing.T) {
	d, s := made(t, "b i1.0.5=a i1.0.6=b c1 b b d2.0.5 i2.0.7=c")
	for _, c := range []struct {
		st   rel.Stmt
		want api.Errno
	}{
		{stmt(api.Insert, 0, 5, "x"), api.ErrDup}, {stmt(api.Insert, 0, 7, "x"), api.ErrConflict},
		{stmt(api.Update, 0, 5, "x"), api.ErrConflict}, {stmt(api.Update, 0, 7, "x"), api.ErrNone},
		{stmt(api.Delete, 0, 5, "x"), api.ErrConflict}, {stmt(api.Delete, 0, 7, "x"), api.ErrNone},
		{stmt(api.Truncate, 0, 5, "x"), api.ErrConflict}, {stmt(rel.Get, 0, 7, "x"), api.ErrNone},
		{stmt(0, 0, 5, "x"), api.ErrArg}, {stmt(7, 0, 5, "x"), api.ErrArg}, {stmt(255, 0, 5, "x"), api.ErrArg},
		{stmt(api.Insert, 0, 8, letters("x", 41)), api.ErrArg}, {stmt(api.Update, 0, 6, letters("x", 41)), api.ErrArg},
		{stmt(api.Insert, -1, 8, "x"), api.ErrArg}, {stmt(api.Insert, 3, 8, "x"), api.ErrArg}, {stmt(api.Truncate, 3, 8, "x"), api.ErrArg},
		{stmt(api.Truncate, math.MinInt, 8, "x"), api.ErrArg}, {stmt(rel.Scan, 3, 8, "x"), api.ErrArg}, {stmt(rel.Scan, math.MaxInt, 8, "x"), api.ErrArg},
	} {
		keeps(t, d, s, func() { runs(t, d, s, 3, c.st, nil, c.want, "") })
	}
	sees(t, s, 3, 0, row(5, "a"), row(6, "b"))
	play(t, s, "c2 c3")
	ends(t, d, 2, commitOf(3, 4, 5, nil, nil))
}

// Who isn't open is told so ahead of all.
func TestRunOfWhoIsntOpen(t *testing.T) {
	d, s := made(t, "b c1 b x2 b b c4 x3")
	for _, x := range []int64{deep, -1, 0, 1, 2, 3, 4, 5, 6, api.MaxTxid, far} {
		for kind := range 256 {
			for _, table := range []int{-1, 0, 2, 3} {
				refuses(t, d, s, api.ErrState, func() api.Errno {
					rows, e := s.Run(x, stmt(byte(kind), table, 5, letters("x", kind)))
					if rows != nil {
						t.Error(rows)
					}
					return e
				})
			}
			if kind > 8 && kind < 250 && x != 5 {
				break
			}
		}
		for _, call := range []func(int64) api.Errno{s.Commit, s.Stage, s.Abort} {
			refuses(t, d, s, api.ErrState, func() api.Errno { return call(x) })
		}
	}
}

// changing lets 1 do so many statements that change something, of all Kinds.
func changing(t *testing.T, s *source.Source, n int) {
	t.Helper()
	kinds := []string{"i1.0.5=a", "u1.0.5=b", "d1.0.5", "z1.2", "i1.2.6=c", "u1.2.6=d", "z1.2", "z1.1"}
	for i := range n {
		play(t, s, kinds[i%len(kinds)])
	}
}

func TestTheFortiethStatement(t *testing.T) {
	d, s := made(t, "b")
	for n := range 40 {
		for _, failing := range []rel.Stmt{stmt(api.Delete, 0, 99, ""), stmt(api.Insert, 7, 5, ""), stmt(9, 0, 5, ""), stmt(rel.Get, 0, 99, "")} {
			if _, e := s.Run(1, failing); e != api.ErrNone && e != api.ErrArg {
				t.Fatal(n, e)
			}
		}
		for range 3 {
			sees(t, s, 1, 1)
		}
		play(t, s, []string{"i1.0.5=a", "u1.0.5=b", "d1.0.5", "z1.2", "i1.2.6=c", "u1.2.6=d", "z1.2", "z1.1"}[n%8])
	}
	refusesAll(t, d, s, api.ErrFull, "i1.0.5=a i1.0.6=a u1.0.5=a d1.0.5 z1.0 z1.2 i1.7.5=a u1.-1.5=a d1.9.5 z1.3 i1.0.6="+letters("x", 41))
	for range 50 {
		sees(t, s, 1, 2)
		runs(t, d, s, 1, stmt(rel.Get, 0, 99, ""), nil, api.ErrNone, "")
		runs(t, d, s, 1, stmt(rel.Scan, 3, 99, ""), nil, api.ErrArg, "")
		runs(t, d, s, 1, stmt(0, 0, 0, ""), nil, api.ErrArg, "")
		runs(t, d, s, 1, stmt(7, 0, 0, ""), nil, api.ErrArg, "")
	}
	refusesAll(t, d, s, api.ErrState, "i2.0.5=a z9.0")
	play(t, s, "b i2.1.5=a c1 i2.1.6=b") // another one may go on
	refusesAll(t, d, s, api.ErrState, "i1.0.5=a z1.0")
}

// Just those without an error count, of each Kind.
func TestEachKindCounts(t *testing.T) {
	for _, c := range []string{"i1.0.%d=a", "u1.2.7=a", "d1.0.%d", "z1.0"} {
		_, s := made(t, "")
		if c[0] == 'd' {
			play(t, s, "b")
			for n := range 40 {
				play(t, s, fmt.Sprintf("i1.0.%d=a", n))
			}
			play(t, s, "c1 b i2.2.7=a")
			c = strings.Replace(c, "1", "2", 1)
		} else {
			play(t, s, "b i1.2.7=a")
		}
		for n := range 39 {
			play(t, s, strings.Replace(c, "%d", fmt.Sprint(n), 1))
		}
		if e := do(s, strings.Replace(c, "%d", "39", 1)); e != api.ErrFull {
			t.Error(c, e)
		}
	}
}

// full is a source of whose table 0 so many rows are committed, from 0 on.
func full(t *testing.T, rows int) (*block.Device, *source.Source) {
	t.Helper()
	d := block.New(1000)
	s := open(t, d, 3, 2)
	for n := range rows {
		if n%20 == 0 {
			play(t, s, "b")
		}
		x := s.Manager().Next() - 1
		play(t, s, fmt.Sprintf("i%d.0.%d=r%d", x, n, n))
		if n%20 == 19 || n == rows-1 {
			play(t, s, fmt.Sprintf("c%d", x))
		}
	}
	return d, s
}

func TestTruncateOfManyRows(t *testing.T) {
	for rows := 38; rows <= 43; rows++ {
		d, s := full(t, rows)
		x, _ := s.Begin()
		st := stmt(api.Truncate, 0, 0, "")
		if rows > 40 {
			keeps(t, d, s, func() { runs(t, d, s, x, st, nil, api.ErrFull, "") })
			keeps(t, d, s, func() { runs(t, d, s, x, st, nil, api.ErrFull, "") })
			play(t, s, fmt.Sprintf("d%d.0.0 z%d.1", x, x)) // just this one is too much
			continue
		}
		all := s.Rows(0, s.Manager().Now())
		l, e := s.Run(x, st)
		if e != api.OK || !slices.Equal(l, all) || len(l) != rows {
			t.Fatal(rows, len(l), e)
		}
		sees(t, s, x, 0)
		events := s.Queue().Spools().All()[rows:]
		for i, e := range events {
			if e != event(int64(rows+1+i), x, 0, api.Truncate, int64(i), "") {
				t.Fatal(e)
			}
		}
		if len(events) != rows {
			t.Fatal(len(events))
		}
	}
}

// It counts what the view sees: what it has done itself, too, and nothing that others do meanwhile.
func TestTruncateCountsTheView(t *testing.T) {
	d, s := full(t, 40)
	play(t, s, "b b i3.0.99=x")
	refusesAll(t, d, s, api.ErrFull, "z3.0")
	if l, e := s.Run(4, stmt(api.Truncate, 0, 0, "")); len(l) != 40 || e != api.OK {
		t.Error(len(l), e)
	}
	play(t, s, "x4 d3.0.7")
	if l, e := s.Run(3, stmt(api.Truncate, 0, 0, "")); len(l) != 40 || e != api.OK {
		t.Error(len(l), e)
	}
	play(t, s, "x3 b b i6.0.50=x c6")
	if l, e := s.Run(5, stmt(api.Truncate, 0, 0, "")); len(l) != 40 || e != api.OK {
		t.Error(len(l), e)
	}
	play(t, s, "x5 b")
	refusesAll(t, d, s, api.ErrFull, "z7.0")
	play(t, s, "d7.0.0 z7.0")
	sees(t, s, 7, 0)
}

// Too many rows go ahead of somebody in the way, and of all errors of a table that there is.
func TestTruncateOfManyRowsInTheWay(t *testing.T) {
	d, s := full(t, 41)
	play(t, s, "b b d4.0.7")
	refusesAll(t, d, s, api.ErrFull, "z5.0")
	play(t, s, "d5.0.8")
	refusesAll(t, d, s, api.ErrConflict, "z5.0")
	refusesAll(t, d, s, api.ErrArg, "z5.3 z5.-1")
	refusesAll(t, d, s, api.ErrState, "z6.0 z3.0 z0.0")
}
