package source

import (
	"cmp"
	"math"
	"slices"

	"carrier/api"
	"carrier/entry"
	"carrier/queue"
)

// noTick is the Open of a consumer that has no batch open, and below each tick's number.
const noTick = 0

// What Rotate tells.
const (
	emptied = 1
	moved   = 2
)

// remember makes an entry safe. What it tells of is done only then: so nothing was, if the log refuses it.
func (s *Source) remember(e entry.Entry) api.Errno {
	refusal := s.log.Append(entry.Encode(e))
	if refusal == api.OK {
		s.log.Sync()
	}
	return refusal
}

// Commit ends a transaction: all that it did is done, and told from the next tick on.
func (s *Source) Commit(x int64) api.Errno {
	if e := s.Stage(x); e != api.OK {
		return e
	}
	s.log.Sync()
	delete(s.open, x)
	return s.manager.Commit(x)
}

// Stage lays a transaction's Commit into the log, and leaves it there, to be lost by a crash, or found behind it.
func (s *Source) Stage(x int64) api.Errno {
	if s == nil {
		return api.ErrNone
	}
	w := s.open[x]
	if w == nil {
		return api.ErrState
	}
	return s.log.Append(entry.Encode(entry.Entry{
		Kind:   entry.Commit,
		Tx:     x,
		Next:   s.manager.Next(),
		NextID: s.queue.NextID(),
		Ops:    w.ops,
		Events: s.placed(x),
	}))
}

// Tick keeps one more tick, which sees whom one sees who begins now.
func (s *Source) Tick(now int64) (api.Tick, api.Errno) {
	if s == nil {
		return api.Tick{}, api.ErrNone
	}
	x, e := s.trial().Tick(now)
	if e != api.OK {
		return api.Tick{}, e
	}
	x.N = s.queue.Ticks().Last() + 1 // the trial counts those alone that are kept
	if e := s.remember(entry.Entry{Kind: entry.Tick, Tick: x}); e != api.OK {
		return api.Tick{}, e
	}
	return s.queue.Tick(now)
}

// Register makes one more consumer, which is told what is committed behind the last tick.
func (s *Source) Register(name string) api.Errno {
	if s == nil {
		return api.ErrNone
	}
	if e := s.trial().Register(name); e != api.OK {
		return e
	}
	if e := s.remember(entry.Entry{Kind: entry.Register, Name: name, N: s.queue.Ticks().Last()}); e != api.OK {
		return e
	}
	return s.queue.Register(name)
}

// Unregister lets a consumer go, and what was to come again for it.
func (s *Source) Unregister(name string) api.Errno {
	if s == nil {
		return api.ErrNone
	}
	if _, there := s.queue.Cursors().Get(name); !there {
		return api.ErrNone
	}
	if e := s.remember(entry.Entry{Kind: entry.Unregister, Name: name}); e != api.OK {
		return e
	}
	return s.queue.Unregister(name)
}

// Next opens a consumer's next batch: the tick up to which it is.
func (s *Source) Next(name string) (api.Tick, api.Errno) {
	if s == nil {
		return api.Tick{}, api.ErrNone
	}
	c, there := s.queue.Cursors().Get(name)
	switch {
	case !there:
		return api.Tick{}, api.ErrNone
	case c.Open != noTick:
		return api.Tick{}, api.ErrState
	}
	next, kept := s.queue.Ticks().After(c.Last)
	if !kept {
		return api.Tick{}, api.ErrWait
	}
	if e := s.remember(entry.Entry{Kind: entry.Open, Name: name, N: next.N}); e != api.OK {
		return api.Tick{}, e
	}
	return s.queue.Next(name)
}

// Batch is the events of the batch that a consumer has open.
func (s *Source) Batch(name string) ([]api.Event, api.Errno) {
	return s.Queue().Batch(name)
}

// Finish ends a consumer's batch: the tick up to which it has finished all now.
func (s *Source) Finish(name string) (int64, api.Errno) {
	if s == nil {
		return 0, api.ErrNone
	}
	c, there := s.queue.Cursors().Get(name)
	switch {
	case !there:
		return 0, api.ErrNone
	case c.Open == noTick:
		return 0, api.ErrState
	}
	if e := s.remember(entry.Entry{Kind: entry.Finish, Name: name, N: c.Open}); e != api.OK {
		return 0, e
	}
	return s.queue.Finish(name)
}

// Retry lets an event of the batch that a consumer has open come again for it, at that time.
func (s *Source) Retry(name string, id, at int64) api.Errno {
	events, e := s.Batch(name)
	if e != api.OK {
		return e
	}
	i := slices.IndexFunc(events, func(x api.Event) bool { return x.ID == id })
	if i < 0 {
		return api.ErrNone
	}
	if e := s.trial().Retries().Add(events[i], name, at); e != api.OK {
		return e
	}
	if e := s.remember(entry.Entry{Kind: entry.Retry, Name: name, N: id, At: at}); e != api.OK {
		return e
	}
	return s.queue.Retry(name, id, at)
}

// Maint lets what is due come again, as events of a transaction of its own: how many.
func (s *Source) Maint(now int64) (int, api.Errno) {
	if s == nil {
		return 0, api.ErrNone
	}
	due := s.queue.Retries().Due(now)
	if len(due) == 0 {
		return 0, api.OK
	}
	x, e := s.manager.Begin()
	if e != api.OK {
		return 0, e
	}
	e = s.remember(entry.Entry{
		Kind:   entry.Maint,
		Tx:     x,
		Next:   s.manager.Next(),
		NextID: s.queue.NextID(),
		Events: again(due, x, s.queue.Spools().Cur()),
		At:     now,
	})
	if e != api.OK {
		s.manager.Abort(x)
		return 0, e
	}
	s.manager.Commit(x)
	return len(s.queue.Maint(x, now)), api.OK
}

// Rotate empties the next spool, if nobody wants what stands there, or, if it is empty, makes it the current one.
func (s *Source) Rotate() (byte, api.Errno) {
	if s == nil {
		return 0, api.ErrNone
	}
	var n int64
	switch {
	case len(s.queue.Spools().Next()) == 0:
		n = moved
	case s.queue.Free():
		n = emptied
	default:
		return 0, api.ErrWait
	}
	if e := s.remember(entry.Entry{Kind: entry.Rotate, N: n}); e != api.OK {
		return 0, e
	}
	return s.queue.Rotate()
}

// Trim lets those ticks go that lie ahead of all that consumers have finished: how many.
func (s *Source) Trim() (int, api.Errno) {
	if s == nil {
		return 0, api.ErrNone
	}
	below, there := s.queue.Cursors().Least()
	if !there {
		below = math.MaxInt64
	}
	if !s.hasBelow(below) {
		return 0, api.OK
	}
	if e := s.remember(entry.Entry{Kind: entry.Trim, N: below}); e != api.OK {
		return 0, e
	}
	return s.queue.Trim(), api.OK
}

// hasBelow tells whether a tick with a number less than that may be let go: not so the last one.
func (s *Source) hasBelow(n int64) bool {
	first, _ := s.queue.Ticks().After(noTick)
	return first.N < n && s.queue.Ticks().Len() > 1
}

// trial is a queue that refuses what the source's would, for it has the same ticks, but for their numbers, consumers
// and retries: so what can't be done is refused ahead of the log, and nothing is changed.
func (s *Source) trial() *queue.Queue {
	t := queue.New(s.manager)
	for x, kept := s.queue.Ticks().After(noTick); kept; x, kept = s.queue.Ticks().After(x.N) {
		t.Ticks().Add(x.Snap, x.At)
	}
	for _, c := range s.queue.Cursors().All() {
		t.Cursors().Register(c.Name, c.Last)
	}
	for _, x := range s.queue.Retries().All() {
		t.Retries().Add(x.Event, x.Event.Owner, x.At)
	}
	return t
}

// placed is a transaction's events, each with the spool in which it stands, by their IDs.
func (s *Source) placed(x int64) []entry.Placed {
	var l []entry.Placed
	for i := range api.Spools {
		for _, e := range s.queue.Spools().List(i) {
			if e.Tx == x {
				l = append(l, entry.Placed{Spool: i, Event: e})
			}
		}
	}
	slices.SortStableFunc(l, func(a, b entry.Placed) int { return cmp.Compare(a.Event.ID, b.Event.ID) })
	return l
}

// again is events as they come again: as those of the transaction x, in that spool.
func again(events []api.Event, x int64, spool int) []entry.Placed {
	var l []entry.Placed
	for _, e := range events {
		e.Tx = x
		l = append(l, entry.Placed{Spool: spool, Event: e})
	}
	return l
}
