package queue_test

import (
	"testing"

	"carrier/api"
	"carrier/queue"
	"carrier/snap"
	"carrier/txn"
)

// ticks tells a fault if Tick tells another tick than one more than the last one, of the manager's Now, at that time,
// or if anything else is another one behind it than that it is kept.
func ticks(t *testing.T, m *txn.Manager, q *queue.Queue, now int64) api.Tick {
	t.Helper()
	want := api.Tick{N: q.Ticks().Last() + 1, Snap: m.Now(), At: now}
	was := tell(q)
	got, e := q.Tick(now)
	if !sameTick(got, want) || e != api.OK {
		t.Fatalf("Tick(%d): %v, %d, not %v", now, got, e, want)
	}
	was.ticks = append(was.ticks, want)
	was.last = want.N
	was.free = q.Free() // this is held elsewhere
	is(t, q, was)
	return got
}

// misses tells a fault if Tick tells another error, or more than that, or changes anything.
func misses(t *testing.T, q *queue.Queue, now int64, want api.Errno) {
	t.Helper()
	refuses(t, q, want, func() api.Errno {
		x, e := q.Tick(now)
		if !sameTick(x, api.Tick{}) {
			t.Fatal(x)
		}
		return e
	})
}

func TestTick(t *testing.T) {
	m, q := made(t, "")
	ticks(t, m, q, 5)
	play(t, m, q, "b b b w1 w2")
	x := ticks(t, m, q, 5)
	if x.N != 2 || !snap.Same(x.Snap, at(4, 1, 2, 3)) || x.At != 5 {
		t.Error(x)
	}
	play(t, m, q, "c2 x1")
	x = ticks(t, m, q, 6)
	if x.N != 3 || !snap.Same(x.Snap, at(4, 3)) || x.At != 6 {
		t.Error(x)
	}
}

func TestTickAtAnyTime(t *testing.T) {
	m, q := made(t, "b")
	for _, now := range numbers() {
		ticks(t, m, q, now)
		ticks(t, m, q, now)
		if q.Ticks().Len() > api.MaxTicks-2 {
			q.Trim()
		}
	}
}

func TestTickAheadOfTheLastOne(t *testing.T) {
	for _, last := range numbers() {
		m, q := made(t, "b w1 c1")
		ticks(t, m, q, last)
		for _, now := range numbers() {
			if now < last {
				misses(t, q, now, api.ErrArg)
			}
		}
		ticks(t, m, q, last)
	}
}

// A manager that knows less than what the last tick saw can't have one more, till it knows all that again.
func TestTickThatDoesNotCoverTheLastOne(t *testing.T) {
	m, q := made(t, "b b c1 c2 b t5")
	m.Load(2, nil)
	misses(t, q, 5, api.ErrArg)
	misses(t, q, far, api.ErrArg)
	m.Load(3, []int64{1, 2})
	ticks(t, m, q, 5)
	m.Load(2, nil)
	play(t, m, q, "b b")
	misses(t, q, 5, api.ErrArg)
	play(t, m, q, "c2 c3")
	ticks(t, m, q, 5)
}

func TestTickWithoutRoom(t *testing.T) {
	m, q := made(t, "")
	for n := range int64(api.MaxTicks) {
		if x := ticks(t, m, q, n); x.N != n+1 {
			t.Fatal(x, n)
		}
	}
	misses(t, q, 100, api.ErrFull)
	misses(t, q, deep, api.ErrFull) // ahead of ErrArg
	if q.Trim() != api.MaxTicks-1 {
		t.Fatal(q.Ticks().Len())
	}
	misses(t, q, deep, api.ErrArg)
	if x := ticks(t, m, q, 100); x.N != api.MaxTicks+1 {
		t.Fatal(x)
	}
}

func TestTickOfQueueWithoutManager(t *testing.T) {
	q := queue.New(nil)
	for _, now := range numbers() {
		misses(t, q, now, api.ErrArg)
	}
	if e := q.Register("a"); e != api.ErrWait {
		t.Error(e)
	}
}

// registers tells a fault if Register tells another error, or if more is done than that one more is there.
func registers(t *testing.T, q *queue.Queue, name string, want api.Errno) {
	t.Helper()
	if want != api.OK {
		refuses(t, q, want, func() api.Errno { return q.Register(name) })
		return
	}
	was := tell(q)
	if e := q.Register(name); e != api.OK {
		t.Fatalf("Register(%.60q): %d", name, e)
	}
	consumer(t, q, name, q.Ticks().Last(), 0)
	got := tell(q)
	if len(got.names) != len(was.names)+1 {
		t.Fatal(got.names)
	}
	was.names, was.opens = got.names, got.opens
	if !got.same(was) {
		t.Fatalf("%s, not %s", short(got), short(was))
	}
}

func TestRegisterWithoutTick(t *testing.T) {
	m, q := made(t, "b w1 c1")
	for _, name := range append(names(), misnomers()...) {
		registers(t, q, name, api.ErrWait) // ahead of ErrArg
	}
	ticks(t, m, q, 0)
	registers(t, q, "", api.ErrArg)
	registers(t, q, "a", api.OK)
}

func TestRegisterAtTheLastTick(t *testing.T) {
	m, q := made(t, "t5 t5")
	registers(t, q, "b", api.OK)
	consumer(t, q, "b", 2, 0)
	ticks(t, m, q, 6)
	registers(t, q, "a", api.OK)
	consumer(t, q, "a", 3, 0)
	play(t, m, q, "-a -b t7 t8 k")
	registers(t, q, "c", api.OK)
	consumer(t, q, "c", 5, 0)
	play(t, m, q, "t9 >c <c")
	registers(t, q, "a", api.OK)
	consumer(t, q, "a", 6, 0)
}

func TestRegisterErrors(t *testing.T) {
	_, q := made(t, "t0 +a +b")
	for _, name := range misnomers() {
		registers(t, q, name, api.ErrArg)
	}
	registers(t, q, "a", api.ErrDup)
	play(t, nil, q, "+c t1 +d")
	for _, name := range misnomers() {
		registers(t, q, name, api.ErrArg) // ahead of ErrFull
	}
	for _, name := range []string{"a", "b", "c", "d"} {
		registers(t, q, name, api.ErrDup) // ahead of ErrFull
	}
	for _, name := range append(names(), "e") {
		if name != "a" && name != "b" {
			registers(t, q, name, api.ErrFull)
		}
	}
	play(t, nil, q, "-b >a <a")
	registers(t, q, "a", api.ErrDup)
	registers(t, q, "b", api.OK)
	consumer(t, q, "b", 2, 0)
	registers(t, q, "e", api.ErrFull)
}

func TestAnyNameMayBeAConsumers(t *testing.T) {
	for _, name := range names() {
		m, q := made(t, "t0")
		registers(t, q, name, api.OK)
		registers(t, q, name, api.ErrDup)
		play(t, m, q, "b w1 c1 t1")
		next(t, q, name, 2, api.OK)
		batch(t, q, name, "1.1")
		if e := q.Retry(name, 1, 5); e != api.OK {
			t.Fatal(e)
		}
		if l := q.Maint(9, 5); len(l) != 1 || l[0].Owner != name {
			t.Fatal(short(l))
		}
		if n, e := q.Finish(name); n != 2 || e != api.OK {
			t.Fatal(n, e)
		}
		if e := q.Unregister(name); e != api.OK {
			t.Fatal(e)
		}
	}
}

func TestUnregister(t *testing.T) {
	const given = "t0 +a +b +ab b w1 w1 c1 t1 >a >b >ab !a1:5 !b1:5 !a2:4 !b2:9"
	_, q := made(t, given)
	for _, name := range append(misnomers(), "c", "A", "aa", "a\x00", api.Replica) {
		refuses(t, q, api.ErrNone, func() api.Errno { return q.Unregister(name) })
	}
	if e := q.Unregister("a"); e != api.OK {
		t.Fatal(e)
	}
	_, other := made(t, given)
	want := tell(other)
	want.names, want.opens = want.names[1:], want.opens[1:] // a is the first one
	want.items = want.items[2:]                             // of the items 4:2a 5:1a 5:1b 9:2b its own are the first ones
	is(t, q, want)
	refuses(t, q, api.ErrNone, func() api.Errno { return q.Unregister("a") })
	if q.Unregister("b") != api.OK || len(q.Retries().All()) != 0 {
		t.Error(short(q.Retries().All()))
	}
	consumer(t, q, "ab", 1, 2)
	batch(t, q, "ab", "1.1 2.1")
}

// Of a consumer that isn't there no retry is let go, even if there is one.
func TestUnregisterOfNobodyDropsNothing(t *testing.T) {
	_, q := made(t, "t0 +a b w1 c1 t1 >a !a1:5")
	q.Cursors().Unregister("a")
	refuses(t, q, api.ErrNone, func() api.Errno { return q.Unregister("a") })
	if l := q.Retries().All(); len(l) != 1 {
		t.Error(short(l))
	}
}

// Who comes again under a name that was there goes on from the last tick, with nothing open, and nothing that comes again.
func TestRegisterAgain(t *testing.T) {
	_, q := made(t, "t0 +a b w1 c1 t1 >a !a1:5 -a t2 +a")
	consumer(t, q, "a", 3, 0)
	next(t, q, "a", 0, api.ErrWait)
	if l := q.Maint(9, far); len(l) != 0 {
		t.Error(short(l))
	}
	play(t, nil, q, "t3 >a")
	batch(t, q, "a", "")
}
