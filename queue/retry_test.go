package queue_test

import (
	"fmt"
	"slices"
	"strings"
	"testing"

	"carrier/api"
	"carrier/queue"
	"carrier/retry"
)

// retries tells a fault if Retry tells another error; without one just that event waits beside the others, for that
// consumer, at that time, with one try more.
func retries(t *testing.T, q *queue.Queue, name string, id, when int64, want api.Errno) {
	t.Helper()
	if want != api.OK {
		refuses(t, q, want, func() api.Errno { return q.Retry(name, id, when) })
		return
	}
	l, _ := q.Batch(name)
	e := l[slices.IndexFunc(l, func(e api.Event) bool { return e.ID == id })]
	e.Owner = name
	e.Tries = min(e.Tries+1, largest)
	was := tell(q)
	if e := q.Retry(name, id, when); e != api.OK {
		t.Fatalf("Retry(%.60q, %d, %d): %d", name, id, when, e)
	}
	got := tell(q)
	one := func(x retry.Item) bool { return x == retry.Item{At: when, Event: e} }
	if slices.IndexFunc(got.items, one) < 0 || slices.IndexFunc(was.items, one) >= 0 {
		t.Fatalf("%s, not %s", short(got.items), short(e))
	}
	got.items = slices.DeleteFunc(got.items, one)
	if !got.same(was) {
		t.Fatalf("%s, not %s", short(got), short(was))
	}
}

// wait tells a fault if other items wait than those, of their times and events: 5:7.3a.
func wait(t *testing.T, q *queue.Queue, want string) {
	t.Helper()
	var all []string
	for _, x := range q.Retries().All() {
		all = append(all, fmt.Sprintf("%d:%s", x.At, words([]api.Event{x.Event})))
	}
	if got := strings.Join(all, " "); got != want {
		t.Fatalf("%s, not %s", got, want)
	}
}

func TestRetry(t *testing.T) {
	_, q := made(t, "t0 +a +b b b w1 w2 w1 c1 c2 t1 >a >b")
	retries(t, q, "a", 2, 9, api.OK)
	retries(t, q, "a", 1, 9, api.OK)
	retries(t, q, "a", 3, 4, api.OK)
	retries(t, q, "b", 3, 4, api.OK)
	wait(t, q, "4:3.1a 4:3.1b 9:1.1a 9:2.2a")
	batch(t, q, "a", "1.1 2.2 3.1")
	batch(t, q, "b", "1.1 2.2 3.1")
}

func TestRetryAtAnyTime(t *testing.T) {
	for _, when := range numbers() {
		m, q := made(t, "t0 +a b w1 c1 t1 >a")
		retries(t, q, "a", 1, when, api.OK)
		if when > deep {
			maintains(t, q, 9, when-1, "")
		}
		maintains(t, q, 9, when, "1.9a")
		play(t, m, q, "<a")
	}
}

// Batch's errors are ahead of all others, ErrNone is ahead of layer 14's, of which ErrDup is ahead of ErrFull.
func TestRetryErrors(t *testing.T) {
	_, q := made(t, "b w1 c1")
	for _, name := range append(names(), misnomers()...) {
		retries(t, q, name, 1, 5, api.ErrNone)
	}
	play(t, nil, q, "t0 +a t1")
	for _, name := range append(misnomers(), "A", "b", "aa") {
		retries(t, q, name, 1, 5, api.ErrNone)
	}
	retries(t, q, "a", 1, 5, api.ErrState)
	retries(t, q, "a", 77, 5, api.ErrState)
	play(t, nil, q, ">a")
	retries(t, q, "a", 1, 5, api.ErrNone) // it stands there, but is none of its batch
	m, q := made(t, "t0 +a +b b")
	for range api.MaxRetries + 1 {
		play(t, m, q, "w1")
	}
	play(t, m, q, "c1 t1 >a")
	for _, id := range numbers() {
		if id < 1 || id > api.MaxRetries+1 {
			retries(t, q, "a", id, 5, api.ErrNone)
		}
	}
	for id := range int64(api.MaxRetries) {
		retries(t, q, "a", id+1, 5, api.OK)
		retries(t, q, "a", id+1, 5, api.ErrDup)
		retries(t, q, "a", id+1, -5, api.ErrDup)
	}
	retries(t, q, "c", 17, 5, api.ErrNone)
	retries(t, q, "b", 17, 5, api.ErrState)
	retries(t, q, "a", 18, 5, api.ErrNone)
	retries(t, q, "a", 17, 5, api.ErrFull)
	retries(t, q, "a", 16, 5, api.ErrDup)
	play(t, m, q, "m9:4")
	retries(t, q, "a", 17, 5, api.ErrFull)
	play(t, m, q, "m9:5")
	retries(t, q, "a", 17, 5, api.OK)
	retries(t, q, "a", 1, 5, api.OK)
	play(t, m, q, "<a")
	retries(t, q, "a", 2, 5, api.ErrState)
}

// Another one's events, and those of transactions beyond the two ticks, are none of a batch.
func TestRetryOfWhatIsNotInTheBatch(t *testing.T) {
	m, q := made(t, "t0 +a +b b w1 c1 t1 >a >b !b1:5 <a <b b m2:5 w2 c2 b b w3 w4 x4 t2 >a >b")
	batch(t, q, "a", "2.2")
	batch(t, q, "b", "1.2b 2.2")
	retries(t, q, "a", 1, 5, api.ErrNone)
	retries(t, q, "a", 3, 5, api.ErrNone)
	retries(t, q, "a", 4, 5, api.ErrNone)
	retries(t, q, "a", 2, 5, api.OK)
	retries(t, q, "b", 1, 5, api.OK)
	play(t, m, q, "c3 b w5 c5 t3")
	retries(t, q, "a", 3, 5, api.ErrNone)
	retries(t, q, "a", 5, 5, api.ErrNone)
	play(t, m, q, "<a >a")
	retries(t, q, "a", 5, 5, api.OK)
}

// Of several with one ID it is the first one, as the batch has them.
func TestRetryIsOfTheFirstOne(t *testing.T) {
	_, q := made(t, "t0 +a b b b w3 w2 o w1 w2 w1 c1 c2 t1 >a")
	q.Spools().AddTo(2, api.Event{ID: 4, Tx: 1, Tries: 5})
	q.Spools().AddTo(1, api.Event{ID: 4, Tx: 1, Tries: 7})
	q.Spools().AddTo(0, api.Event{ID: 4, Tx: 3, Tries: 3}) // of one that is open
	q.Spools().AddTo(0, api.Event{ID: 4, Tx: 1, Owner: "b"})
	q.Spools().AddTo(0, api.Event{ID: 4, Tx: 1, Owner: "a", Tries: 9, Table: 3, Kind: api.Delete})
	batch(t, q, "a", "2.2 3.1 4.1a 4.2 4.1 4.1 5.1")
	retries(t, q, "a", 4, 5, api.OK)
	want := retry.Item{At: 5, Event: api.Event{ID: 4, Tx: 1, Owner: "a", Tries: 10, Table: 3, Kind: api.Delete}}
	if l := q.Retries().All(); len(l) != 1 || l[0] != want {
		t.Fatal(short(l))
	}
	retries(t, q, "a", 4, 5, api.ErrDup) // the first one again, not the next one
}

func TestRetryCountsTries(t *testing.T) {
	m, q := made(t, "t0 +a b w1 c1 t1 >a")
	for n := range 6 {
		retries(t, q, "a", 1, int64(n), api.OK)
		x, _ := m.Begin()
		l := q.Maint(x, int64(n))
		if len(l) != 1 || l[0].Tries != n+1 || l[0].Tx != x || l[0].Owner != "a" || l[0].ID != 1 || l[0].Row != row(1) {
			t.Fatal(short(l))
		}
		m.Commit(x)
		q.Tick(int64(n + 2))
		play(t, m, q, "<a >a")
		batch(t, q, "a", words(l))
	}
	m, q = made(t, "t0 +a b")
	for i, tries := range []int{largest - 1, largest} {
		q.Spools().Add(api.Event{ID: int64(i), Tx: 1, Tries: tries})
	}
	play(t, m, q, "c1 t1 >a")
	for i := range int64(2) {
		retries(t, q, "a", i, 5, api.OK)
		if l := q.Retries().All(); l[i].Event.Tries != largest {
			t.Fatal(short(l))
		}
	}
}

// maintains tells a fault if Maint tells other events than those, or if more is done than that they stand behind all
// others in the current spool, and wait no more.
func maintains(t *testing.T, q *queue.Queue, x, now int64, want string) {
	t.Helper()
	was := tell(q)
	var due []api.Event
	for len(was.items) > 0 && was.items[0].At <= now {
		e := was.items[0].Event
		e.Tx = x
		due = append(due, e)
		was.items = was.items[1:]
	}
	if got := q.Maint(x, now); !slices.Equal(got, due) || words(got) != want {
		t.Fatalf("Maint(%d, %d): %s, not %s", x, now, short(got), want)
	}
	was.lists[was.cur] = append(was.lists[was.cur], due...)
	got := tell(q)
	was.opens, was.free = got.opens, got.free // these are held elsewhere
	if !got.same(was) {
		t.Fatalf("%s, not %s", short(got), short(was))
	}
}

func TestMaint(t *testing.T) {
	m, q := made(t, "t0 +a +b b w1 w1 w1 w1 c1 t1 >a >b !a3:5 !b1:6 !a1:6 !b3:5 !a4:7 !a2:4 !b4:9 o")
	wait(t, q, "4:2.1a 5:3.1a 5:3.1b 6:1.1a 6:1.1b 7:4.1a 9:4.1b")
	maintains(t, q, 7, deep, "")
	maintains(t, q, 7, 3, "")
	maintains(t, q, 7, 6, "2.7a 3.7a 3.7b 1.7a 1.7b")
	maintains(t, q, 7, 6, "")
	stand(t, q, "1.1 2.1 3.1 4.1", "2.7a 3.7a 3.7b 1.7a 1.7b", "")
	wait(t, q, "7:4.1a 9:4.1b")
	play(t, m, q, "w2")
	maintains(t, q, 8, far, "4.8a 4.8b")
	stand(t, q, "1.1 2.1 3.1 4.1", "2.7a 3.7a 3.7b 1.7a 1.7b 5.2 4.8a 4.8b", "")
	maintains(t, q, 8, far, "")
	if q.NextID() != 6 {
		t.Error(q.NextID())
	}
	for _, e := range q.Spools().List(1) {
		if e.ID != 5 && (e.Tries != 1 || e.Table != 1 || e.Kind != api.Update || e.Row != row(1)) {
			t.Error(short(e))
		}
	}
}

// The transaction may be any number.
func TestMaintOfAnyTransaction(t *testing.T) {
	for _, x := range numbers() {
		_, q := made(t, "t0 +a b w1 c1 t1 >a !a1:5")
		maintains(t, q, x, 5, fmt.Sprintf("1.%da", x))
	}
}

func TestMaintWithoutRetries(t *testing.T) {
	_, q := made(t, "b w1 c1")
	for _, now := range numbers() {
		maintains(t, q, now, now, "")
	}
}

// As many as may wait.
func TestMaintOfAll(t *testing.T) {
	m, q := made(t, "t0 +a b")
	for range api.MaxRetries {
		play(t, m, q, "w1")
	}
	play(t, m, q, "c1 t1 >a")
	var want []string
	for n := range int64(api.MaxRetries) {
		retries(t, q, "a", api.MaxRetries-n, n/3, api.OK)
	}
	for _, x := range q.Retries().All() {
		want = append(want, fmt.Sprintf("%d.9a", x.Event.ID))
	}
	if want[0] != "14.9a" || want[3] != "11.9a" {
		t.Fatal(want)
	}
	maintains(t, q, 9, 10, strings.Join(want, " "))
}

// What came again is told to its owner alone, in the batch that has its new transaction, and once.
func TestWhatCameAgainIsToldAgain(t *testing.T) {
	m, q := made(t, "t0 +a +b b w1 c1 t1 >a !a1:5 <a >b <b b b m2:5 t2 >a >b")
	batch(t, q, "a", "")
	play(t, m, q, "<a <b c2 t3 x3 >a >b")
	batch(t, q, "a", "1.2a")
	batch(t, q, "b", "")
	play(t, m, q, "<a <b t4 >a >b")
	batch(t, q, "a", "")
	batch(t, q, "b", "")
}

// Of a transaction that is aborted, and forgotten, nothing comes again.
func TestWhatCameAgainMayBeAborted(t *testing.T) {
	m, q := made(t, "t0 +a b w1 c1 t1 >a !a1:5 <a b m2:5 x2 t2 >a")
	batch(t, q, "a", "")
	if q.Forget(2) != 1 {
		t.Error(words(q.Spools().All()))
	}
	play(t, m, q, "<a t3 >a")
	batch(t, q, "a", "")
}
