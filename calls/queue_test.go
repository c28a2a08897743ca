package calls

import (
	"math"
	"reflect"

	"carrier/api"
	"carrier/queue"
	"carrier/txn"
)

// queued is a queue of a manager of its own: see filled.
func queued(ticks, consumers, events int) *queue.Queue {
	return filled(begun(2), ticks, consumers, events)
}

// filled is a queue with so many ticks, consumers, of whom each has a batch open, events in each spool, and events that
// come again for the first consumer. The manager has two transactions open: 3, which is committed ahead of the second tick, and 4.
func filled(m *txn.Manager, ticks, consumers, events int) *queue.Queue {
	q := queue.New(m)
	for n := range ticks {
		q.Tick(int64(n))
		if n > 0 {
			continue
		}
		for i := range consumers {
			q.Register(consumer(i))
		}
		write(q, events)
		m.Commit(3)
	}
	if ticks == 0 {
		write(q, events)
	}
	for n := range consumers {
		q.Next(consumer(n))
	}
	for id := int64(0); id < q.NextID() && len(q.Retries().All()) < events; id++ {
		q.Retry(consumer(0), id, odd(reflect.TypeFor[int64](), int(id)/2%kinds).Int())
	}
	return q
}

// write lays so many events into each of a queue's spools.
func write(q *queue.Queue, events int) {
	for range api.Spools {
		for n := range events {
			e := change(n % kinds)
			q.Write(int64(3+n%2), e.Table, e.Kind, e.Row)
		}
		q.Rotate()
	}
}

// drained is a queue whose consumers have finished all, and of whose ticks just the last one is kept.
func drained() *queue.Queue {
	q := queued(2, 3, 3)
	for _, c := range q.Cursors().All() {
		q.Finish(c.Name)
	}
	q.Maint(3, math.MaxInt64)
	q.Trim()
	return q
}

// unticked is a queue with consumers of ticks that there never were, and one event of a Tx that none can have.
func unticked() *queue.Queue {
	q := queued(0, 0, 2)
	q.Cursors().Register(consumer(0), math.MaxInt64)
	q.Cursors().Register(consumer(1), 7)
	q.Cursors().Open(consumer(1), 9)
	q.Retries().Add(change(4), consumer(1), 0)
	q.Spools().Add(change(5))
	return q
}

// forgetful is a queue whose manager was loaded since: it doesn't know the transactions of its events.
func forgetful() *queue.Queue {
	m := begun(2)
	q := filled(m, 3, 2, 2)
	m.Load(3, []int64{1})
	return q
}
