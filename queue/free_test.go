package queue_test

import (
	"testing"

	"carrier/api"
	"carrier/queue"
	"carrier/txn"
)

func TestRotateOfEmptySpools(t *testing.T) {
	for _, m := range []*txn.Manager{nil, txn.New()} {
		q := queue.New(m)
		for range 7 {
			rotates(t, q, 2)
		}
	}
}

// round moves the current spool so that spool 0 is the next one, if all others are empty.
const round = " o o"

// What stands in the next spool is free, or not: 1, or 0, by what was done.
func TestFree(t *testing.T) {
	for text, want := range map[string]byte{
		"b w1" + round:       0, // its transaction is open
		"b w1 c1" + round:    1, // nobody is there, and whoever comes is told what is committed behind the first tick
		"b w1 x1" + round:    1,
		"w1" + round:         1, // there is no such transaction
		"w0" + round:         1,
		"b w1 c1 f1" + round: 2,

		"t0 b w1" + round:       0,
		"t0 b w1 c1" + round:    0, // no tick has seen it
		"t0 b w1 x1" + round:    1,
		"t0 w1" + round:         1,
		"b w1 t0 c1" + round:    0,
		"b w1 c1 t0" + round:    1, // nobody is there, and whoever comes goes on from that tick
		"t0 b w1 c1 t1" + round: 1,
		"b w1 c1 t0 k" + round:  1,

		"b w1 c1 t0 +a" + round:             1,
		"t0 +a b w1" + round:                0,
		"t0 +a b w1 c1" + round:             0,
		"t0 +a b w1 x1" + round:             1,
		"t0 +a w1" + round:                  1,
		"t0 +a b w1 c1 t1" + round:          0, // a hasn't finished it
		"t0 +a b w1 c1 t1 >a" + round:       0, // nor is what is open finished
		"t0 +a b w1 c1 t1 >a <a" + round:    1,
		"t0 +a b w1 c1 t1 -a" + round:       1,
		"t0 +a b w1 c1 t1 >a -a" + round:    1,
		"t0 +a b w1 c1 t1 +b -a" + round:    1, // b goes on from where it is seen
		"t0 +a b w1 c1 t1 >a <a t2" + round: 1,
		"b w1 t0 +a c1 t1" + round:          0,
		"b w1 t0 +a c1 t1 >a <a" + round:    1,
		"b w1 t0 +a x1 t1 >a" + round:       1,
		"t0 +a t1 >a <a b w1 c1" + round:    0, // all have finished all, but no tick has seen it

		"t0 +a +b b w1 c1 t1 >a <a" + round:       0, // b hasn't finished it
		"t0 +a +b b w1 c1 t1 >b <b" + round:       0, // nor a
		"t0 +a +b b w1 c1 t1 >a >b <b <a" + round: 1,
		"t0 +a +b b w1 c1 t1 >a <a -b" + round:    1,
		"t0 +a +b b w1 c1 t1 >b <b -a" + round:    1,
		"t0 +a b w1 c1 t1 +b >a <a" + round:       1,

		"t0 +a b b w1 w2 c1 c2 t1 >a <a" + round:    1,
		"t0 +a b b w1 w2 c1 t1 >a <a" + round:       0, // of one of two
		"t0 +a b b w1 w2 c2 t1 >a <a" + round:       0,
		"t0 +a b b w1 w2 c1 x2 t1 >a <a" + round:    1,
		"t0 +a b b w1 w2 c1 t1 >a <a c2 t2" + round: 0,

		"t0 +a b w1 c1 t1 >a !a1:5 <a" + round:                             1, // what waits isn't in the spools
		"t0 +a b w1 c1 t1 >a !a1:5 <a b m2:5 c2" + round:                   0, // it came again
		"t0 +a b w1 c1 t1 >a !a1:5 <a b m2:5 c2 t2 >a" + round:             0,
		"t0 +a b w1 c1 t1 >a !a1:5 <a b m2:5 c2 t2 >a <a" + round:          1,
		"t0 +a b w1 c1 t1 >a !a1:5 <a b m2:5" + round:                      0,
		"t0 +a b w1 c1 t1 >a !a1:5 <a b m2:5 x2" + round:                   1,
		"t0 +a b w1 c1 t1 >a !a1:5 <a b m2:5 c2 t2 -a" + round:             1,
		"t0 +a +b b w1 c1 t1 >b <b >a !a1:5 <a b m2:5 c2 t2 >a <a" + round: 0, // whose it is isn't asked: b goes on from ahead of it
		"t0 +a +b b w1 c1 t1 >b <b >a !a1:5 <a b m2:5 c2 t2 >b <b" + round: 0,
	} {
		_, q := made(t, text)
		if keeps(t, q, func() { q.Free() }); q.Free() != (want != 0) {
			t.Fatal(text, q.Free())
		}
		rotates(t, q, want)
		if want == 1 {
			rotates(t, q, 2)
		}
	}
}

// Only what stands in the next spool counts.
func TestFreeIsOfTheNextSpool(t *testing.T) {
	m, q := made(t, "t0 +a b b w1")
	rotates(t, q, 2)
	play(t, m, q, "w1")
	rotates(t, q, 2)
	play(t, m, q, "w2 c2")
	stand(t, q, "1.1", "2.1", "3.2")
	rotates(t, q, 0)
	m.Abort(1)
	rotates(t, q, 1)
	stand(t, q, "", "2.1", "3.2")
	rotates(t, q, 2)
	rotates(t, q, 1) // 2.1, which is aborted
	rotates(t, q, 2)
	rotates(t, q, 0) // 3.2, which a hasn't finished
	play(t, m, q, "t1 >a <a")
	rotates(t, q, 1)
	rotates(t, q, 2)
	stand(t, q, "", "", "")
}

// A table that is emptied may be written again, and so on.
func TestRotateAgainAndAgain(t *testing.T) {
	m, q := made(t, "t0 +a")
	for n := range int64(40) {
		x, _ := m.Begin()
		e := q.Write(x, 0, api.Insert, row(x))
		m.Commit(x)
		ticks(t, m, q, n)
		next(t, q, "a", n+2, api.OK)
		batch(t, q, "a", words([]api.Event{e}))
		if n >= 2 {
			rotates(t, q, 1)
		}
		rotates(t, q, 2)
		play(t, m, q, "<a k")
		if q.Spools().Len() > 3 || q.Ticks().Len() != 1 {
			t.Fatal(q.Spools().Len(), q.Ticks().Len())
		}
	}
}

// trims tells a fault if Trim tells another number, or if others are kept than the last ones, or anything else changes.
func trims(t *testing.T, q *queue.Queue, want int) {
	t.Helper()
	was := tell(q)
	if got := q.Trim(); got != want {
		t.Fatalf("Trim: %d, not %d", got, want)
	}
	was.ticks = was.ticks[want:]
	is(t, q, was)
}

func TestTrimWithoutConsumer(t *testing.T) {
	m, q := made(t, "")
	trims(t, q, 0)
	ticks(t, m, q, 0)
	trims(t, q, 0)
	play(t, m, q, "t1 t2 t3")
	trims(t, q, 3)
	trims(t, q, 0)
	play(t, m, q, "+a t4 -a")
	trims(t, q, 1)
}

func TestTrim(t *testing.T) {
	m, q := made(t, "t0 t1 +a t2 +b t3 t4 t5")
	trims(t, q, 1) // a has finished 2
	play(t, m, q, ">b <b >b <b")
	trims(t, q, 0)
	play(t, m, q, ">a")
	trims(t, q, 0) // what is open isn't finished
	play(t, m, q, "<a")
	trims(t, q, 1)
	play(t, m, q, ">a <a >a <a")
	trims(t, q, 2) // both have finished 5
	play(t, m, q, ">b")
	trims(t, q, 0)
	play(t, m, q, "-a")
	trims(t, q, 0)
	play(t, m, q, "<b")
	trims(t, q, 1)
	trims(t, q, 0)
	play(t, m, q, "t6 t7 +c -b")
	trims(t, q, 2)
}

func TestTrimBehindSomebodyIsGone(t *testing.T) {
	m, q := made(t, "t0 +a t1 +b t2 t3")
	trims(t, q, 0)
	play(t, m, q, "-a")
	trims(t, q, 1)
	play(t, m, q, "-b")
	trims(t, q, 2)
	play(t, m, q, "+c t4")
	trims(t, q, 0)
	next(t, q, "c", 5, api.OK)
}

// All ticks that a batch is between are kept, so Trim changes no batch, and none that is opened behind it.
func TestTrimLeavesBatches(t *testing.T) {
	const given = "t0 t0 +a b w1 c1 t1 +b b w2 c2 t2 b w3 c3 t3 >a >b"
	m, q := made(t, given)
	trims(t, q, 1)
	other, untrimmed := made(t, given)
	for range 3 {
		for _, name := range []string{"a", "b"} {
			l, _ := untrimmed.Batch(name)
			batch(t, q, name, words(l))
			if n, _ := untrimmed.Finish(name); n > 0 {
				finishes(t, q, name, n, api.OK)
			}
			q.Trim()
			x, e := untrimmed.Next(name)
			next(t, q, name, x.N, e)
			if e != api.OK {
				play(t, m, q, "t9 >"+name)
				play(t, other, untrimmed, "t9 >"+name)
			}
		}
	}
}

func TestTrimMakesRoom(t *testing.T) {
	m, q := made(t, "t0 +a")
	for n := range int64(api.MaxTicks - 1) {
		ticks(t, m, q, n)
	}
	misses(t, q, 100, api.ErrFull)
	trims(t, q, 0)
	play(t, m, q, ">a <a")
	trims(t, q, 1)
	ticks(t, m, q, 100)
	misses(t, q, 100, api.ErrFull)
	play(t, m, q, "-a")
	trims(t, q, api.MaxTicks-1)
	ticks(t, m, q, 100)
}
