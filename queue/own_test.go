package queue_test

import (
	"slices"
	"testing"

	"carrier/api"
	"carrier/queue"
	"carrier/txn"
)

// The objects within are the same ones at all times: what the queue's calls do is seen there.
func TestObjectsWithinAreTheQueuesOwn(t *testing.T) {
	m, q := made(t, "")
	spools, ticks, cursors, retries := q.Spools(), q.Ticks(), q.Cursors(), q.Retries()
	play(t, m, q, "b w1")
	if words(spools.List(0)) != "1.1" || spools.Len() != 1 {
		t.Error(words(spools.All()))
	}
	play(t, m, q, "f1 o w1 c1")
	if words(spools.List(1)) != "2.1" || spools.Cur() != 1 || spools.Len() != 1 {
		t.Error(words(spools.All()), spools.Cur())
	}
	play(t, m, q, "t0")
	if ticks.Last() != 1 || ticks.Len() != 1 {
		t.Error(ticks.Last())
	}
	play(t, m, q, "+a b w2 c2 t1")
	if c, there := cursors.Get("a"); !there || c.Last != 1 || c.Open != 0 {
		t.Error(c)
	}
	play(t, m, q, ">a !a3:5")
	if c, _ := cursors.Get("a"); c.Open != 2 || len(retries.All()) != 1 {
		t.Error(c, short(retries.All()))
	}
	play(t, m, q, "<a k m9:5")
	if c, _ := cursors.Get("a"); c.Last != 2 || ticks.Len() != 1 || len(retries.All()) != 0 || words(spools.List(1)) != "2.1 3.2 3.9a" {
		t.Error(c, ticks.Len(), short(retries.All()), words(spools.All()))
	}
	play(t, m, q, "b w3 c3 t6 >a !a4:7 -a")
	if len(cursors.All()) != 0 || len(retries.All()) != 0 {
		t.Error(cursors.All(), short(retries.All()))
	}
	if q.Spools() != spools || q.Ticks() != ticks || q.Cursors() != cursors || q.Retries() != retries {
		t.Error("other ones")
	}
}

// What is laid into them is the queue's, too: so a log is done again.
func TestWhatIsLaidIntoObjectsWithin(t *testing.T) {
	m, q := made(t, "")
	m.Load(4, []int64{1, 3})
	q.Ticks().Put(api.Tick{N: 1, Snap: at(1), At: 5})
	q.Cursors().Register("a", 1)
	q.Ticks().Put(api.Tick{N: 2, Snap: at(4), At: 5})
	q.Spools().AddTo(2, api.Event{ID: 8, Tx: 3})
	q.Spools().AddTo(0, api.Event{ID: 7, Tx: 2})
	q.Spools().AddTo(0, api.Event{ID: 9, Tx: 1})
	q.SetNextID(10)
	next(t, q, "a", 2, api.OK)
	batch(t, q, "a", "8.3 9.1")
	q.Retries().Add(api.Event{ID: 7, Tx: 2}, "a", 6)
	q.Retries().Add(api.Event{ID: 7, Tx: 2}, "b", 6)
	maintains(t, q, 4, 6, "7.4a 7.4b")
	q.Spools().Rotate(false)
	play(t, m, q, "b w4")
	stand(t, q, "7.2 9.1 7.4a 7.4b", "10.4", "8.3")
	registers(t, q, "c", api.OK)
	consumer(t, q, "c", 2, 0)
	rotates(t, q, 0)
	play(t, m, q, "<a")
	rotates(t, q, 1)
}

func TestQueuesShareNothingButTheirManager(t *testing.T) {
	m := txn.New()
	p, q := queue.New(m), queue.New(m)
	play(t, m, p, "b w1 w1 o t0 +a")
	is(t, q, told{id: 1, free: true})
	play(t, m, q, "w1 t5 +b c1 t6 >b !b1:7")
	if got := tell(p); got.last != 1 || len(got.names) != 1 || got.names[0].Name != "a" || len(got.items) != 0 || words(got.lists[0]) != "1.1 2.1" {
		t.Error(short(got))
	}
	play(t, m, p, "t1 >a")
	batch(t, p, "a", "1.1 2.1")
	batch(t, q, "b", "1.1")
}

// overwrite writes into a list, and into the room that it has behind it.
func overwrite[X any](l []X, over X) {
	l = l[:cap(l)]
	for i := range l {
		l[i] = over
	}
}

// over is what is written.
var over = api.Event{ID: 77, Tx: 1, Owner: "over", Tries: 7, Table: 7, Kind: 7, Row: api.Row{Key: 77, Text: "over"}}

// texts are what was done to queues with batches of no event, of one, of several, from one spool and from all.
func texts() []string {
	return []string{
		"t0 +a t1 >a",
		"t0 +a b w1 c1 t1 >a",
		"t0 +a +b b w1 w1 w1 c1 t1 >a >b",
		"t0 +a b b w2 w1 o w1 w2 o w2 w2 w1 c1 c2 t1 >a",
		"t0 +a b w1 w1 w1 w1 w1 c1 t1 >a !a3:5 !a2:5 !a5:4 !a1:9",
		"t0 +a b w1 w1 c1 t1 >a !a2:5 !a1:5 b m2:5 c2 t2 <a >a !a1:7",
	}
}

func TestBatchMayBeWrittenOver(t *testing.T) {
	for _, text := range texts() {
		m, q := made(t, text)
		was := tell(q)
		first, _ := q.Batch("a")
		second, _ := q.Batch("a")
		want := slices.Clone(second)
		overwrite(first, over)
		if !slices.Equal(second, want) {
			t.Fatal(text, short(second))
		}
		is(t, q, was)
		overwrite(second, over)
		is(t, q, was)
		longer := append(want[:len(want):len(want)], over)
		third, _ := q.Batch("a")
		third = append(third, over)
		q.Write(1, 1, api.Insert, row(1))
		play(t, m, q, "m9:5")
		if !slices.Equal(third, longer) {
			t.Fatal(text, short(third))
		}
	}
}

func TestMaintMayBeWrittenOver(t *testing.T) {
	for _, text := range texts() {
		for _, now := range []int64{3, 4, 5, 6, far} {
			_, q := made(t, text)
			l := q.Maint(9, now)
			was := tell(q)
			overwrite(l, over)
			is(t, q, was)
			_, q = made(t, text)
			l = append(q.Maint(9, now), over)
			writes(t, q, 3, 1, api.Insert, row(3))
			was = tell(q)
			if l[len(l)-1] != over {
				t.Fatal(text, short(l))
			}
			overwrite(l, over)
			is(t, q, was)
		}
	}
}

func TestSnapshotsMayBeWrittenOver(t *testing.T) {
	m, q := made(t, "b b b w1 w2 w3 c2")
	x, _ := q.Tick(0)
	was := tell(q)
	overwrite(x.Snap.Open, 2)
	is(t, q, was)
	play(t, m, q, "+a c1")
	q.Tick(1)
	y, _ := q.Next("a")
	was = tell(q)
	overwrite(y.Snap.Open, 1)
	is(t, q, was)
	batch(t, q, "a", "1.1")
	play(t, m, q, "<a c3 t2 >a")
	batch(t, q, "a", "3.3")
	now := m.Now()
	z, _ := q.Tick(3)
	overwrite(now.Open, 1)
	if !sameTick(z, api.Tick{N: 4, Snap: m.Now(), At: 3}) {
		t.Error(z)
	}
}

func TestAnswersStay(t *testing.T) {
	for _, text := range texts() {
		m, q := made(t, text)
		l, _ := q.Batch("a")
		want := slices.Clone(l)
		due := q.Maint(9, 5)
		wantDue := slices.Clone(due)
		play(t, m, q, "b b")
		x, _ := q.Tick(10)
		wantTick := api.Tick{N: q.Ticks().Last(), Snap: m.Now(), At: 10}
		play(t, m, q, "<a")
		y, _ := q.Next("a")
		open := slices.Clone(y.Snap.Open)
		for x := range int64(10) {
			m.Commit(x)
			q.Forget(x)
		}
		for range 5 {
			q.Write(9, 2, api.Delete, row(9))
			q.Rotate()
		}
		play(t, m, q, "t11 -a k")
		if !slices.Equal(l, want) || !slices.Equal(due, wantDue) || !sameTick(x, wantTick) || !slices.Equal(y.Snap.Open, open) {
			t.Fatal(text, short(l), short(due), x, y)
		}
	}
}

// The bytes that texts were made of may be written over: what was handed in stays as it was.
func TestTextsMayBeOfBytesThatChange(t *testing.T) {
	m, q := made(t, "t0 b")
	p := []byte("ab")
	if q.Write(1, 0, api.Insert, api.Row{Text: string(p)}); q.Register(string(p)) != api.OK {
		t.Fatal("Register")
	}
	play(t, m, q, "c1 t1 >ab")
	q.Retry(string(p), 1, 5)
	copy(p, "zz")
	consumer(t, q, "ab", 1, 2)
	wait(t, q, "5:1.1ab")
	if l, _ := q.Batch("ab"); len(l) != 1 || l[0].Row.Text != "ab" {
		t.Error(short(l))
	}
}
