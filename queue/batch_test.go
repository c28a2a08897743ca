package queue_test

import (
	"slices"
	"testing"

	"carrier/api"
	"carrier/cursor"
	"carrier/queue"
)

// stays tells a fault if Next tells another error, or more than that, or changes anything.
func stays(t *testing.T, q *queue.Queue, name string, want api.Errno) {
	t.Helper()
	keeps(t, q, func() {
		t.Helper()
		next(t, q, name, 0, want)
	})
}

func TestNext(t *testing.T) {
	_, q := made(t, "t0 +b t1 +a t2")
	for _, x := range []struct {
		name       string
		last, open int64
	}{{"a", 2, 3}, {"b", 1, 2}} {
		was := tell(q)
		next(t, q, x.name, x.open, api.OK)
		consumer(t, q, x.name, x.last, x.open)
		got := tell(q)
		was.names, was.opens = got.names, got.opens
		if !got.same(was) {
			t.Fatalf("%s, not %s", short(got), short(was))
		}
	}
	play(t, nil, q, "<b t3 <a")
	next(t, q, "b", 3, api.OK)
	next(t, q, "a", 4, api.OK)
}

func TestNextErrors(t *testing.T) {
	_, q := made(t, "")
	for _, name := range append(names(), misnomers()...) {
		stays(t, q, name, api.ErrNone)
	}
	play(t, nil, q, "t0 t1 +a")
	for _, name := range append(misnomers(), "A", "b", "aa", "a\x00") {
		stays(t, q, name, api.ErrNone) // ahead of ErrWait
	}
	stays(t, q, "a", api.ErrWait)
	play(t, nil, q, "t2 >a")
	stays(t, q, "a", api.ErrState) // ahead of ErrWait
	play(t, nil, q, "t3")
	stays(t, q, "a", api.ErrState)
	play(t, nil, q, "<a >a")
	stays(t, q, "a", api.ErrState)
	play(t, nil, q, "<a")
	stays(t, q, "a", api.ErrWait)
	play(t, nil, q, "-a")
	stays(t, q, "a", api.ErrNone)
}

// The tick is the first one that is kept behind its Last, whichever were let go.
func TestNextIsTheFirstOneThatIsKept(t *testing.T) {
	m, q := made(t, "t0 +a b w1 c1 t1 b w2 c2 t2 b w3 c3 t3 b w4 c4 t4")
	q.Ticks().Trim(4)
	next(t, q, "a", 4, api.OK)
	play(t, m, q, "<a")
	next(t, q, "a", 5, api.OK)
	batch(t, q, "a", "4.4")
	play(t, m, q, "<a")
	stays(t, q, "a", api.ErrWait)
}

// A batch that was opened farther, as cursors may be, is from its Last, all ticks between included.
func TestBatchOverSeveralTicks(t *testing.T) {
	m, q := made(t, "b w1 c1 t0 +a b w2 c2 t1 b w3 c3 t2 b w4 c4 t3 b w5 c5 t4")
	q.Cursors().Open("a", 4)
	batch(t, q, "a", "2.2 3.3 4.4")
	finishes(t, q, "a", 4, api.OK)
	next(t, q, "a", 5, api.OK)
	batch(t, q, "a", "5.5")
	play(t, m, q, "<a")
}

func TestNextTicksOneByOne(t *testing.T) {
	m, q := made(t, "t0 +a +b")
	for n := range int64(20) {
		x, _ := m.Begin()
		e := q.Write(x, 0, api.Insert, row(x))
		m.Commit(x)
		ticks(t, m, q, n)
		if n%3 == 2 {
			q.Trim()
		}
		next(t, q, "a", n+2, api.OK)
		batch(t, q, "a", words([]api.Event{e}))
		if got, e := q.Finish("a"); got != n+2 || e != api.OK {
			t.Fatal(got, e)
		}
	}
	for n := range int64(20) {
		next(t, q, "b", n+2, api.OK)
		if l, _ := q.Batch("b"); len(l) != 1 || l[0].ID != n+1 {
			t.Fatal(words(l), n)
		}
		play(t, m, q, "<b")
	}
	stays(t, q, "b", api.ErrWait)
}

// asks tells a fault if Batch tells another error, or more than that, or changes anything.
func asks(t *testing.T, q *queue.Queue, name string, want api.Errno) {
	t.Helper()
	refuses(t, q, want, func() api.Errno {
		l, e := q.Batch(name)
		if len(l) > 0 {
			t.Fatal(words(l))
		}
		return e
	})
}

func TestBatchErrors(t *testing.T) {
	_, q := made(t, "b w1")
	for _, name := range append(names(), misnomers()...) {
		asks(t, q, name, api.ErrNone)
	}
	play(t, nil, q, "t0 +a t1")
	for _, name := range append(misnomers(), "A", "b", "aa", "a\x00") {
		asks(t, q, name, api.ErrNone)
	}
	asks(t, q, "a", api.ErrState)
	play(t, nil, q, ">a")
	asks(t, q, "a", api.OK)
	play(t, nil, q, "<a")
	asks(t, q, "a", api.ErrState)
	play(t, nil, q, "-a")
	asks(t, q, "a", api.ErrNone)
}

// Just what the snapshot of Open sees as committed, and that of Last doesn't.
func TestBatchIsBetweenTwoTicks(t *testing.T) {
	m, q := made(t, "b b b b b b w1 w2 w3 w4 w5 w6 w1 w3 c1 x2 t0 +a w3 w5 c3 x4 t1 b b w7 w8 c5 c7 t2")
	for _, want := range []struct {
		tick int64
		told string
	}{{2, "3.3 8.3 9.3"}, {3, "5.5 10.5 11.7"}} {
		next(t, q, "a", want.tick, api.OK)
		batch(t, q, "a", want.told)
		play(t, m, q, "<a")
	}
	play(t, m, q, "c6 x8 t3 >a")
	batch(t, q, "a", "6.6")
	play(t, m, q, "<a t4 >a")
	batch(t, q, "a", "")
}

// A batch is from its own consumer's ticks, not another one's, nor from the last one.
func TestBatchesSideBySide(t *testing.T) {
	m, q := made(t, "b w1 c1 t0 +a b w2 c2 t1 +b b w3 c3 t2 +c b w4 c4 t3 >a >b >c")
	batch(t, q, "a", "2.2")
	batch(t, q, "b", "3.3")
	batch(t, q, "c", "4.4")
	play(t, m, q, "<a >a <b <c")
	batch(t, q, "a", "3.3")
	play(t, m, q, "b w5 c5 t4 >b >c <a >a")
	batch(t, q, "a", "4.4")
	batch(t, q, "b", "4.4")
	batch(t, q, "c", "5.5")
}

// The order is that of the IDs, whichever spool an event stands in, and of like ones that of the spools.
func TestBatchIsByIDs(t *testing.T) {
	m, q := made(t, "t0 +a b b w1 w2 o w1 w2 o w2 w1 c1 c2")
	play(t, m, q, "t1 >a")
	stand(t, q, "1.1 2.2", "3.1 4.2", "5.2 6.1")
	batch(t, q, "a", "1.1 2.2 3.1 4.2 5.2 6.1")

	m, q = made(t, "t0 +a b b")
	for _, x := range []struct {
		id   int64
		then string
	}{{4, "w1"}, {-7, "w2"}, {5, "w1 o"}, {0, "w2"}, {far, "w1"}, {3, "w2 o"}, {deep, "w1"}, {4, "w2"}, {4, "w1"}} {
		q.SetNextID(x.id)
		play(t, m, q, x.then)
	}
	q.Spools().AddTo(1, api.Event{ID: 4, Tx: 1, Tries: 9})
	play(t, m, q, "c1 c2 t1 >a")
	batch(t, q, "a", "-9223372036854775808.1 -7.2 0.2 3.2 4.1 4.1 4.2 4.1 5.1 9223372036854775807.1")
	if l, _ := q.Batch("a"); l[5].Tries != 9 {
		t.Fatal(short(l))
	}
}

func TestBatchOfAnOwner(t *testing.T) {
	m, q := made(t, "t0 +a +b +ab b w1 w1 c1 t1 >a >b")
	play(t, m, q, "!a1:5 !b1:5 !b2:5 b m2:5 w2 c2 t2 <a <b >ab")
	stand(t, q, "1.1 2.1 1.2a 1.2b 2.2b 3.2", "", "")
	batch(t, q, "ab", "1.1 2.1")
	play(t, m, q, ">a >b <ab >ab +A t3")
	batch(t, q, "a", "1.2a 3.2")
	batch(t, q, "b", "1.2b 2.2b 3.2")
	batch(t, q, "ab", "3.2")
	play(t, m, q, ">A")
	batch(t, q, "A", "")
}

func TestBatchOfNoEvent(t *testing.T) {
	_, q := made(t, "t0 +a t1 >a")
	batch(t, q, "a", "")
	_, q = made(t, "b w1 w1 c1 t0 +a b b w2 w3 x2 t1 >a")
	batch(t, q, "a", "")
}

func TestBatchChangesNothing(t *testing.T) {
	m, q := made(t, "t0 +a +b b b w1 w2 w1 o w1 c1 t1 >a w2 c2 t2")
	for range 5 {
		keeps(t, q, func() { batch(t, q, "a", "1.1 3.1 4.1") })
		keeps(t, q, func() { asks(t, q, "b", api.ErrState) })
	}
	play(t, m, q, ">b t3 b w3 c3 t4 o +c k")
	for range 5 {
		keeps(t, q, func() { batch(t, q, "a", "1.1 3.1 4.1") })
		keeps(t, q, func() { batch(t, q, "b", "1.1 3.1 4.1") })
	}
}

// A batch has all fields of its events as they were written.
func TestBatchTellsEventsWhole(t *testing.T) {
	m, q := made(t, "t0 +a b")
	var want []api.Event
	for i, n := range numbers() {
		want = append(want, q.Write(1, int(n), byte(i*9), api.Row{Key: n, Text: letters("t", i)}))
	}
	play(t, m, q, "c1 t1 >a")
	if l, e := q.Batch("a"); !slices.Equal(l, want) || e != api.OK {
		t.Error(short(l), e)
	}
}

// finishes tells a fault if Finish tells something else; without an error just that consumer is another one behind it.
func finishes(t *testing.T, q *queue.Queue, name string, n int64, want api.Errno) {
	t.Helper()
	was := tell(q)
	if got, e := q.Finish(name); got != n || e != want {
		t.Fatalf("Finish(%.60q): %d, %d, not %d, %d", name, got, e, n, want)
	}
	if want == api.OK {
		i := slices.IndexFunc(was.names, func(c cursor.Cursor) bool { return c.Name == name })
		was.names[i].Last, was.names[i].Open = n, 0
		was.opens[i] = opened{e: api.ErrState}
		was.free = q.Free() // this is held elsewhere
	}
	is(t, q, was)
}

func TestFinish(t *testing.T) {
	_, q := made(t, "")
	for _, name := range append(names(), misnomers()...) {
		finishes(t, q, name, 0, api.ErrNone)
	}
	play(t, nil, q, "t0 +a +b t1 t2")
	for _, name := range append(misnomers(), "A", "c", "aa", "a\x00") {
		finishes(t, q, name, 0, api.ErrNone)
	}
	finishes(t, q, "a", 0, api.ErrState)
	play(t, nil, q, ">a >b")
	finishes(t, q, "a", 2, api.OK)
	finishes(t, q, "a", 0, api.ErrState)
	next(t, q, "a", 3, api.OK)
	finishes(t, q, "a", 3, api.OK)
	next(t, q, "a", 0, api.ErrWait)
	finishes(t, q, "b", 2, api.OK)
	next(t, q, "b", 3, api.OK)
	play(t, nil, q, "-b")
	finishes(t, q, "b", 0, api.ErrNone)
}

// What was finished isn't told again; nothing is left out.
func TestNextGoesOnFromFinish(t *testing.T) {
	m, q := made(t, "t0 +a b w1 c1 t1 >a b w2 c2 t2 b w3 c3 <a t3 >a")
	batch(t, q, "a", "2.2")
	play(t, m, q, "<a >a")
	batch(t, q, "a", "3.3")
	consumer(t, q, "a", 3, 4)
}
