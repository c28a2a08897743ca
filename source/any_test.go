package source_test

import (
	"fmt"
	"slices"
	"testing"

	"carrier/api"
	"carrier/block"
	"carrier/entry"
	"carrier/rel"
	"carrier/source"
)

// oddNumbers are such as are on some edge.
func oddNumbers() []int64 {
	return []int64{
		deep, deep + 1, -1 << 32, -1 << 31, -2, -1, 0, 1, 2, 3, 4, 5, 6, 7, 40, 41, 64, 65, 255, 256,
		api.MaxTxid - 1, api.MaxTxid, api.MaxTxid + 1, 1<<31 - 1, 1 << 32, far - 1, far,
	}
}

// oddNames are such as a consumer may have, and such as none may.
func oddNames() []string {
	return []string{"a", "", "b", "\x00", "a\x00", "\xff\xfe", letters("a", 40), letters("a", 41), letters("é", 20), letters("\xff", 1<<16), api.Replica, "nobody"}
}

// oddSnapshots are such as are Right, and such as aren't.
func oddSnapshots() []api.Snapshot {
	return []api.Snapshot{{}, at(1), at(deep), at(far), at(-1, 1), at(5, 4, 3, 2, 1), at(5, 5, 5), at(far, oddNumbers()...), at(3, 2), at(4, 1)}
}

// anySource is sources of all kinds, by what they are.
func anySource(t *testing.T) map[string]func() *source.Source {
	t.Helper()
	of := func(d *block.Device, tables, traced int) func() *source.Source {
		return func() *source.Source { return open(t, twin(d), tables, traced) }
	}
	played := func(text string) func() *source.Source {
		return func() *source.Source { _, s := made(t, text); return s }
	}
	odd := remembered(t,
		commitOf(1, api.MaxTxid, far, []entry.Op{put(0, deep, "")}, in(2, event(far, 1, 0, 4, far, ""), event(far, 7, 0, 4, far, ""))),
		named(entry.Register, "a", far), named(entry.Register, "b", 1), tickOf(1, far, api.MaxTxid, 1, 2, api.MaxTxid-1), tickOf(2, far, api.MaxTxid), named(entry.Open, "b", 2),
	)
	return map[string]func() *source.Source{
		"nil":            func() *source.Source { return nil },
		"its zero value": func() *source.Source { return &source.Source{} },
		"new":            of(block.New(500), 4, 4), "one table": of(block.New(500), -1, -1), "no room": of(block.New(0), 3, 2), "one block": of(block.New(1), 3, 2),
		"odd entries": of(odd, 2, 1), "each Kind": of(remembered(t, whole()...), 3, 2),
		"some are open":      played("b i1.0.5=a c1 t1 +a b b u2.0.5=b i3.1.-1=c t1 >a"),
		"nobody more may be": played("t1 +a +b +c +d b b b b b b i6.0.0=x d6.0.0"),
		"retries":            played(waiting + "b i2.0.8=w o t3 >a"),
		"the last ID":        func() *source.Source { _, s := made(t, "t0 +a b"); s.Queue().SetNextID(far); return s },
		"an ID below 1":      func() *source.Source { _, s := made(t, "t0 +a b"); s.Queue().SetNextID(deep); return s },
		"no number is left":  of(remembered(t, commitOf(1, api.MaxTxid, 1, nil, nil)), 3, 2),
		"many rows":          func() *source.Source { _, s := full(t, 45); return s },
		"no room is left":    func() *source.Source { _, s := prepared(t, 5); return s },
		"staged":             played("b i1.0.5=a s1"),
	}
}

// fits tells a fault if an error is none of those.
func fits(t *testing.T, call string, e api.Errno, of ...api.Errno) {
	t.Helper()
	if !slices.Contains(append(of, api.OK, api.ErrNone, api.ErrArg, api.ErrFull), e) {
		t.Fatalf("%s: %d", call, e)
	}
}

// Of any source, whatever it is told, each call ends, and the errors are of those that the chapter names.
func TestAnyCall(t *testing.T) {
	for kind, create := range anySource(t) {
		s := create()
		for i, n := range oddNumbers() {
			for j, name := range oddNames() {
				k := oddNumbers()[(i*7+j)%len(oddNumbers())]
				x, e := s.Begin()
				fits(t, kind, e)
				st := rel.Stmt{Kind: byte(i + j), Table: int(n), Row: row(k, name)}
				for _, y := range []int64{x, n, 1, 2} {
					for _, st := range []rel.Stmt{st, stmt(byte(j), j%5-1, n, name), stmt(api.Insert, j%3, k, ""), stmt(api.Truncate, j%4, k, "")} {
						_, e := s.Run(y, st)
						fits(t, kind, e, api.ErrState, api.ErrDup, api.ErrConflict)
					}
				}
				fits(t, kind, s.Commit(n), api.ErrState)
				fits(t, kind, s.Stage(n), api.ErrState)
				fits(t, kind, s.Abort(k), api.ErrState)
				anyQueue(t, kind, s, name, n, k)
				s.Vacuum()
				for _, snap := range oddSnapshots() {
					s.Rows(int(n), snap)
					s.Rows(j%4, snap)
				}
				for _, call := range []func(int64) api.Errno{s.Abort, s.Commit}[j%2:] {
					fits(t, kind, call(x), api.ErrState)
				}
				if s.Size() > 12000 {
					s = create()
				}
			}
		}
	}
}

// anyQueue does each of the queue's calls.
func anyQueue(t *testing.T, kind string, s *source.Source, name string, n, k int64) {
	t.Helper()
	_, a := s.Tick(n)
	fits(t, kind, a)
	fits(t, kind, s.Register(name), api.ErrWait, api.ErrDup)
	_, a = s.Next(name)
	fits(t, kind, a, api.ErrState, api.ErrWait)
	_, a = s.Batch(name)
	fits(t, kind, a, api.ErrState)
	for _, id := range []int64{n, k, 1, 2, 3} {
		fits(t, kind, s.Retry(name, id, k), api.ErrState, api.ErrDup)
	}
	if k%3 != 0 {
		_, a = s.Finish(name)
		fits(t, kind, a, api.ErrState)
	}
	_, a = s.Maint(n)
	fits(t, kind, a)
	_, a = s.Rotate()
	fits(t, kind, a, api.ErrWait)
	_, a = s.Trim()
	fits(t, kind, a)
	if n%2 == 0 {
		fits(t, kind, s.Unregister(name))
	}
}

// Of a device whose log has any entries Open tells a source, or ErrForm: just what the chapter says of them.
func TestAnyLog(t *testing.T) {
	var all []entry.Entry
	for _, e := range undoable() {
		all = append(all, e)
	}
	slices.SortFunc(all, func(a, b entry.Entry) int { return slices.Compare(entry.Encode(a), entry.Encode(b)) })
	all = append(all, whole()...)
	good := 0
	for i, e := range all {
		for n := range whole() {
			for _, l := range [][]entry.Entry{
				append(whole()[:n:n], e),
				append(append(whole()[:n:n], e), whole()[n:]...), // one is between
				append(append(whole()[:n:n], all[(i+n)%len(all)], e), whole()[n+1:]...),
			} {
				s, refusal := source.Open(remembered(t, l...), 3, 2)
				o := newModel(3, 2, 1000).again(l)
				if o == nil {
					if s != nil || refusal != api.ErrForm {
						t.Fatal(refusal, short(fmt.Sprintf("%+v", l)))
					}
					continue
				}
				good++
				if refusal != api.OK {
					t.Fatal(refusal, short(fmt.Sprintf("%+v", l)))
				}
				is(t, s, o.tell())
			}
		}
	}
	if good < 300 {
		t.Error(good)
	}
}
