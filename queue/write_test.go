package queue_test

import (
	"slices"
	"testing"

	"carrier/api"
	"carrier/queue"
	"carrier/txn"
)

func TestNew(t *testing.T) {
	for _, m := range []*txn.Manager{nil, txn.New()} {
		q := queue.New(m)
		is(t, q, told{id: 1, free: true})
		if q.Spools() == nil || q.Ticks() == nil || q.Cursors() == nil || q.Retries() == nil {
			t.Error("nil")
		}
	}
}

// writes tells a fault if Write tells another event, or if that one doesn't stand behind all others in the current
// spool, or if anything else is another one behind it but the next ID.
func writes(t *testing.T, q *queue.Queue, x int64, table int, kind byte, r api.Row) api.Event {
	t.Helper()
	id := q.NextID()
	want := api.Event{ID: id, Tx: x, Table: table, Kind: kind, Row: r}
	was := tell(q)
	if got := q.Write(x, table, kind, r); got != want {
		t.Fatalf("%s, not %s", short(got), short(want))
	}
	got := tell(q)
	was.lists[was.cur] = append(was.lists[was.cur], want)
	was.id = id + 1
	was.opens, was.free = got.opens, got.free // these are held elsewhere
	if !got.same(was) {
		t.Fatalf("%s, not %s", short(got), short(was))
	}
	return want
}

func TestWrite(t *testing.T) {
	m, q := made(t, "b b")
	first := writes(t, q, 1, 0, api.Insert, api.Row{Key: 5, Text: "x"})
	if first != (api.Event{ID: 1, Tx: 1, Kind: api.Insert, Row: api.Row{Key: 5, Text: "x"}}) || q.NextID() != 2 {
		t.Error(first, q.NextID())
	}
	writes(t, q, 2, 3, api.Update, api.Row{Key: -5, Text: "y"})
	writes(t, q, 1, 1, api.Delete, api.Row{Key: 5})
	last := writes(t, q, 1, 2, api.Truncate, api.Row{Key: 9})
	if last.ID != 4 || q.NextID() != 5 || q.Spools().Len() != 4 {
		t.Error(last, q.NextID())
	}
	stand(t, q, "1.1 2.2 3.1 4.1", "", "")
	m.Commit(1)
	writes(t, q, 1, 0, api.Insert, api.Row{})
	m.Abort(2)
	writes(t, q, 2, 0, api.Insert, api.Row{})
}

// Nothing is asked of what is written.
func TestWriteAnything(t *testing.T) {
	texts := append(append(names(), misnomers()...), "")
	for _, m := range []*txn.Manager{nil, txn.New()} {
		q := queue.New(m)
		for i, n := range numbers() {
			for kind := range 256 {
				if (i+kind)%16 == 0 {
					writes(t, q, n, int(numbers()[(i+kind)%len(numbers())]), byte(kind), api.Row{Key: n, Text: texts[(i+kind)%len(texts)]})
				}
			}
		}
	}
}

func TestWriteBehindRotate(t *testing.T) {
	_, q := made(t, "b w1 o w1 w1 o")
	writes(t, q, 1, 0, api.Insert, row(1))
	stand(t, q, "1.1", "2.1 3.1", "4.1")
	if _, e := q.Rotate(); e != api.ErrWait {
		t.Fatal(e)
	}
	writes(t, q, 1, 0, api.Insert, row(1))
	stand(t, q, "1.1", "2.1 3.1", "4.1 5.1")
	q.Forget(1)
	rotates(t, q, 2)
	writes(t, q, 1, 0, api.Insert, row(1))
	stand(t, q, "6.1", "", "")
}

func TestWriteBehindWhatCameAgain(t *testing.T) {
	_, q := made(t, "t0 +a b w1 c1 t1 >a !a1:5 m7:5")
	writes(t, q, 3, 0, api.Insert, row(3))
	stand(t, q, "1.1 1.7a 2.3", "", "")
}

// Who is told nothing of it yet has the batch open that it had.
func TestWriteBesideOpenBatches(t *testing.T) {
	_, q := made(t, "t0 +a +b b b w1 w2 c1 t1 >a")
	writes(t, q, 2, 0, api.Insert, row(2))
	batch(t, q, "a", "1.1")
	writes(t, q, 3, 0, api.Insert, row(3))
	batch(t, q, "a", "1.1")
	writes(t, q, 1, 0, api.Insert, row(1)) // one that was committed, and is seen
	batch(t, q, "a", "1.1 5.1")
}

func TestSetNextID(t *testing.T) {
	q := queue.New(txn.New())
	for _, n := range numbers() {
		was := tell(q)
		was.id = n
		q.SetNextID(n)
		is(t, q, was)
		if q.NextID() != n {
			t.Fatal(q.NextID(), n)
		}
		if e := writes(t, q, 3, 1, api.Update, row(3)); e.ID != n {
			t.Fatal(e, n)
		}
		want := n + 1
		if n == far {
			want = deep // as numbers go round
		}
		if q.NextID() != want {
			t.Fatal(q.NextID(), want)
		}
		if e := writes(t, q, 3, 1, api.Update, row(3)); e.ID != want {
			t.Fatal(e, want)
		}
	}
}

// An ID may be set that stands there already, or that is less than those.
func TestSetNextIDBack(t *testing.T) {
	_, q := made(t, "t0 +a b w1 w1 w1 c1")
	q.SetNextID(2)
	play(t, nil, q, "o w1 w1 t1 >a")
	stand(t, q, "1.1 2.1 3.1", "2.1 3.1", "")
	batch(t, q, "a", "1.1 2.1 2.1 3.1 3.1")
	if q.NextID() != 4 {
		t.Error(q.NextID())
	}
}

// forgets tells a fault if Forget tells another number, or lets something else go than that transaction's events.
func forgets(t *testing.T, q *queue.Queue, x int64, want int) {
	t.Helper()
	was := tell(q)
	if got := q.Forget(x); got != want {
		t.Fatalf("Forget(%d): %d, not %d", x, got, want)
	}
	got := tell(q)
	for i, l := range was.lists {
		was.lists[i] = slices.DeleteFunc(l, func(e api.Event) bool { return e.Tx == x })
	}
	was.opens, was.free = got.opens, got.free // these are held elsewhere
	if !got.same(was) {
		t.Fatalf("%s, not %s", short(got), short(was))
	}
}

func TestForget(t *testing.T) {
	m, q := made(t, "b b b w1 w2 w1 o w3 w2 w2 o w1 w2")
	for _, x := range []int64{deep, -1, 0, 4, 5, far} {
		forgets(t, q, x, 0)
	}
	forgets(t, q, 2, 4)
	stand(t, q, "1.1 3.1", "4.3", "7.1")
	forgets(t, q, 2, 0)
	m.Abort(1)
	forgets(t, q, 1, 3)
	stand(t, q, "", "4.3", "")
	if q.NextID() != 9 {
		t.Error(q.NextID())
	}
	m.Commit(3)
	forgets(t, q, 3, 1)
	stand(t, q, "", "", "")
	forgets(t, q, 3, 0)
}

// What waits to come again stays; what came again is of the transaction that Maint named.
func TestForgetBesideRetries(t *testing.T) {
	_, q := made(t, "t0 +a b b w1 w2 c1 c2 t1 >a !a1:5 !a2:9 b m3:5")
	stand(t, q, "1.1 2.2 1.3a", "", "")
	forgets(t, q, 2, 1)
	if l := q.Retries().All(); len(l) != 1 || l[0].Event.ID != 2 || l[0].Event.Tx != 2 {
		t.Fatal(short(l))
	}
	forgets(t, q, 1, 1)
	forgets(t, q, 3, 1)
	stand(t, q, "", "", "")
}
