package source

import (
	"carrier/api"
	"carrier/entry"
	"carrier/heap"
)

// redo is a source to which is done again what its log has, and who has been committed so far.
type redo struct {
	*Source
	committed []int64
}

// record does again what a record tells of; false: it isn't an entry, or can't be done.
func (r *redo) record(p []byte) bool {
	e, refusal := entry.Decode(p)
	if refusal != api.OK {
		return false
	}
	switch e.Kind {
	case entry.Commit:
		return r.commit(e)
	case entry.Maint:
		return r.maint(e)
	case entry.Tick:
		return r.tick(e.Tick)
	case entry.Rotate:
		return r.rotate(e.N)
	case entry.Trim:
		r.queue.Ticks().Trim(e.N)
		return true
	}
	return r.consumer(e)
}

// commit does again what a transaction has done, and told.
func (r *redo) commit(e entry.Entry) bool {
	r.committed = append(r.committed, e.Tx)
	if !r.load(e.Next) {
		return false
	}
	for _, op := range e.Ops {
		if r.tables.Heap(op.Table).Redo(e.Tx, []heap.Op{op.Op}) != api.OK {
			return false
		}
	}
	for _, p := range e.Events {
		if r.tables.Heap(p.Event.Table) == nil || r.queue.Spools().AddTo(p.Spool, p.Event) != api.OK {
			return false
		}
	}
	r.queue.SetNextID(e.NextID)
	return true
}

// maint lets come again what came again then: its events, and what they were made of waits no more.
func (r *redo) maint(e entry.Entry) bool {
	if !r.commit(e) {
		return false
	}
	r.queue.Retries().Take(e.At)
	return true
}

// tick keeps a tick again. No number below its snapshot's Max is given once more: whoever had one began ahead of it.
func (r *redo) tick(x api.Tick) bool {
	if r.queue.Ticks().Put(x) != api.OK {
		return false
	}
	return x.Snap.Max <= r.manager.Next() || r.load(x.Snap.Max)
}

// rotate goes round again. Whether somebody wanted what stood there was asked then.
func (r *redo) rotate(n int64) bool {
	told, e := r.queue.Spools().Rotate(true)
	return e == api.OK && int64(told) == n
}

// consumer does again what one of them did; the replica's entries are none of these.
func (r *redo) consumer(e entry.Entry) bool {
	switch e.Kind {
	case entry.Register:
		return r.queue.Cursors().Register(e.Name, e.N) == api.OK
	case entry.Unregister:
		return r.queue.Unregister(e.Name) == api.OK
	case entry.Open:
		x, refusal := r.queue.Next(e.Name)
		return refusal == api.OK && x.N == e.N
	case entry.Finish:
		n, refusal := r.queue.Finish(e.Name)
		return refusal == api.OK && n == e.N
	case entry.Retry:
		return r.queue.Retry(e.Name, e.N, e.At) == api.OK
	}
	return false
}

// load makes all who have begun ahead of next those who were committed so far, and others who were aborted.
func (r *redo) load(next int64) bool {
	return r.manager.Load(next, r.committed) == api.OK
}
