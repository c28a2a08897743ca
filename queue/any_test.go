package queue_test

import (
	"testing"

	"carrier/api"
	"carrier/queue"
	"carrier/txn"
)

func TestNil(t *testing.T) {
	var q *queue.Queue
	for i, n := range numbers() {
		for _, name := range append(names(), misnomers()...) {
			x, e := q.Next(name)
			l, f := q.Batch(name)
			done, g := q.Finish(name)
			if !sameTick(x, api.Tick{}) || len(l) > 0 || done != 0 {
				t.Fatal(x, l, done)
			}
			for _, e := range []api.Errno{e, f, g, q.Register(name), q.Unregister(name), q.Retry(name, n, -n)} {
				if e != api.ErrNone {
					t.Fatal(name, e)
				}
			}
			if e := q.Write(n, i, byte(i), api.Row{Key: n, Text: name}); e != (api.Event{}) {
				t.Fatal(e)
			}
		}
		if x, e := q.Tick(n); !sameTick(x, api.Tick{}) || e != api.ErrNone {
			t.Fatal(x, e)
		}
		q.SetNextID(n)
		if q.NextID() != 0 || q.Forget(n) != 0 || len(q.Maint(n, n)) > 0 {
			t.Fatal(n)
		}
	}
	if did, e := q.Rotate(); did != 0 || e != api.ErrNone || q.Free() || q.Trim() != 0 {
		t.Error(did, e)
	}
	if q.Spools() != nil || q.Ticks() != nil || q.Cursors() != nil || q.Retries() != nil {
		t.Error("not nil")
	}
}

// Without a manager each transaction is one that there isn't, and whom one sees is nobody.
func TestQueueWithoutManager(t *testing.T) {
	q := queue.New(nil)
	writes(t, q, 1, 0, api.Insert, row(1))
	writes(t, q, 2, 0, api.Insert, row(2))
	misses(t, q, 0, api.ErrArg)
	registers(t, q, "a", api.ErrWait)
	refuses(t, q, api.ErrNone, func() api.Errno { return q.Unregister("a") })
	stays(t, q, "a", api.ErrNone)
	asks(t, q, "a", api.ErrNone)
	finishes(t, q, "a", 0, api.ErrNone)
	retries(t, q, "a", 1, 5, api.ErrNone)
	maintains(t, q, 3, far, "")
	trims(t, q, 0)
	rotates(t, q, 2)
	rotates(t, q, 2)
	rotates(t, q, 1) // nobody wants what nobody has done
	writes(t, q, 3, 0, api.Insert, row(3))
	forgets(t, q, 3, 1)

	q.Ticks().Add(at(2), 0) // as another manager would tell
	registers(t, q, "a", api.OK)
	q.Ticks().Add(at(9), 0)
	writes(t, q, 5, 0, api.Insert, row(5))
	next(t, q, "a", 2, api.OK)
	batch(t, q, "a", "")
	retries(t, q, "a", 4, 5, api.ErrNone)
	misses(t, q, 1, api.ErrArg)
	finishes(t, q, "a", 2, api.OK)
	trims(t, q, 1)
	rotates(t, q, 2)
	rotates(t, q, 2)
	rotates(t, q, 1)
}

// A manager that was loaded knows other transactions: all goes by what it tells now.
func TestManagerThatWasLoaded(t *testing.T) {
	m, q := made(t, "t0 +a b b b w1 w2 w3 c1 x2 t1 >a o o")
	batch(t, q, "a", "1.1")
	rotates(t, q, 0)
	m.Load(4, []int64{2})
	batch(t, q, "a", "2.2")
	rotates(t, q, 0)
	m.Load(4, []int64{3})
	batch(t, q, "a", "")
	rotates(t, q, 0)
	m.Load(1, nil)
	batch(t, q, "a", "")
	misses(t, q, 9, api.ErrArg) // the last tick saw 1, and 2
	rotates(t, q, 1)
}

// anyQueue are makers of queues of all kinds.
func anyQueue(t *testing.T) map[string]func() *queue.Queue {
	all := map[string]func() *queue.Queue{
		"nil":             func() *queue.Queue { return nil },
		"without manager": func() *queue.Queue { return queue.New(nil) },
		"just made":       func() *queue.Queue { return queue.New(txn.New()) },
		"as many as may be": func() *queue.Queue {
			m, q := made(t, "t0 +a +b +\xff +a\x00 b")
			for range api.MaxRetries {
				play(t, m, q, "w1")
			}
			play(t, m, q, "c1 t1 >a >b")
			for id := range int64(api.MaxRetries) {
				q.Retry("a", id+1, numbers()[id])
			}
			for range api.MaxOpen {
				m.Begin()
			}
			for q.Ticks().Len() < api.MaxTicks {
				q.Tick(2)
			}
			return q
		},
		"of IDs at the end": func() *queue.Queue {
			m, q := made(t, "t0 +a b")
			q.SetNextID(far - 1)
			play(t, m, q, "w1 w1 w1 c1 t1 >a")
			return q
		},
		"ticks that are gone": func() *queue.Queue {
			m, q := made(t, "t0 +a b w1 c1 t1 >a t2")
			q.Ticks().Trim(far)
			play(t, m, q, "b w2")
			return q
		},
		"consumers of ticks that there aren't": func() *queue.Queue {
			m, q := made(t, "b w1 c1")
			q.Cursors().Register("a", far)
			q.Cursors().Register("b", 7)
			q.Cursors().Open("b", 9)
			q.Retries().Add(api.Event{ID: deep}, "nobody", 5)
			play(t, m, q, "w1")
			return q
		},
		"a manager that was loaded": func() *queue.Queue {
			m, q := made(t, "t0 +a b b b w1 w2 w3 w9 c1 x2 t1 >a")
			m.Load(2, nil)
			return q
		},
	}
	for _, text := range texts() {
		all[text] = func() *queue.Queue { _, q := made(t, text); return q }
	}
	return all
}

// Of any queue, whatever it is told, each call ends, and the errors are of those that the chapter names.
func TestAnyCall(t *testing.T) {
	texts := append(append(names(), misnomers()...), "nobody")
	for kind, made := range anyQueue(t) {
		q := made()
		for i, n := range numbers() {
			for j, name := range texts {
				k := numbers()[(i+j)%len(numbers())]
				_, a := q.Next(name)
				_, b := q.Batch(name)
				_, c := q.Finish(name)
				_, d := q.Tick(k)
				_, r := q.Rotate()
				fits(t, kind, name, a, api.OK, api.ErrNone, api.ErrState, api.ErrWait)
				fits(t, kind, name, b, api.OK, api.ErrNone, api.ErrState)
				fits(t, kind, name, c, api.OK, api.ErrNone, api.ErrState)
				fits(t, kind, name, d, api.OK, api.ErrNone, api.ErrArg, api.ErrFull)
				fits(t, kind, name, r, api.OK, api.ErrNone, api.ErrWait)
				fits(t, kind, name, q.Register(name), api.OK, api.ErrNone, api.ErrWait, api.ErrArg, api.ErrDup, api.ErrFull)
				q.Next(name)
				fits(t, kind, name, q.Retry(name, n, k), api.OK, api.ErrNone, api.ErrState, api.ErrDup, api.ErrFull)
				q.Write(n, int(k), byte(i+j), api.Row{Key: k, Text: name})
				q.Free()
				q.Maint(k, n)
				q.Trim()
				q.Forget(k)
				if j%3 == i%3 {
					fits(t, kind, name, q.Unregister(name), api.OK, api.ErrNone)
				}
				q.SetNextID(k)
				if q != nil && q.NextID() != k {
					t.Fatal(kind, k)
				}
				if q.Spools().Len() > 200 {
					q = made()
				}
			}
		}
	}
}

// fits tells a fault if an error is none of those.
func fits(t *testing.T, kind, name string, e api.Errno, of ...api.Errno) {
	t.Helper()
	for _, x := range of {
		if e == x {
			return
		}
	}
	t.Fatalf("%s, %.60q: %d, none of %v", kind, name, e, of)
}
