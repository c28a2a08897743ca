package source_test

import (
	"slices"

	"carrier/api"
	"carrier/cursor"
	"carrier/entry"
	"carrier/retry"
)

// The model's queue: each call that remembers asks first, then lays its entry into the log, and only then does it.

func (o *model) mayTick(x api.Tick) api.Errno {
	kept := o.ticks[o.gone:]
	if len(kept) == 64 {
		return api.ErrFull
	}
	if x.Snap.Max < 1 {
		return api.ErrArg
	}
	for i, one := range x.Snap.Open {
		if one < 1 || one >= x.Snap.Max || i > 0 && one <= x.Snap.Open[i-1] {
			return api.ErrArg
		}
	}
	if len(kept) > 0 {
		if last := kept[len(kept)-1]; !coversOf(x.Snap, last.Snap) || x.At < last.At {
			return api.ErrArg
		}
	}
	return api.OK
}

func (o *model) tick(now int64) (api.Tick, api.Errno) {
	x := api.Tick{N: int64(len(o.ticks)) + 1, Snap: o.now(), At: now}
	e := o.mayTick(x)
	if e == api.OK {
		e = o.append(entry.Entry{Kind: 2, Tick: x})
	}
	if e != api.OK {
		return api.Tick{}, e
	}
	o.ticks = append(o.ticks, x)
	return x, api.OK
}

// find is a consumer's place, or -1.
func (o *model) find(name string) int {
	for i, c := range o.names {
		if c.Name == name {
			return i
		}
	}
	return -1
}

func (o *model) mayRegister(name string, n int64) api.Errno {
	switch {
	case len(name) == 0 || len(name) > 40 || n < 1:
		return api.ErrArg
	case o.find(name) >= 0:
		return api.ErrDup
	case len(o.names) == 4:
		return api.ErrFull
	}
	return api.OK
}

func (o *model) register(name string, n int64) api.Errno {
	e := o.mayRegister(name, n)
	if e == api.OK {
		o.names = append(o.names, cursor.Cursor{Name: name, Last: n})
	}
	return e
}

func (o *model) comes(name string) api.Errno {
	n := int64(len(o.ticks))
	if n == 0 {
		return api.ErrWait
	}
	if e := o.mayRegister(name, n); e != api.OK {
		return e
	}
	if e := o.append(entry.Entry{Kind: 3, Name: name, N: n}); e != api.OK {
		return e
	}
	return o.register(name, n)
}

func (o *model) unregister(name string) api.Errno {
	i := o.find(name)
	if i < 0 {
		return api.ErrNone
	}
	o.names = slices.Delete(o.names, i, i+1)
	o.items = slices.DeleteFunc(o.items, func(x retry.Item) bool { return x.Event.Owner == name })
	return api.OK
}

func (o *model) goes(name string) api.Errno {
	if o.find(name) < 0 {
		return api.ErrNone
	}
	if e := o.append(entry.Entry{Kind: 4, Name: name}); e != api.OK {
		return e
	}
	return o.unregister(name)
}

// behind is the tick up to which a consumer's next batch is, and the consumer's place.
func (o *model) behind(name string) (int, api.Tick, api.Errno) {
	i := o.find(name)
	if i < 0 {
		return 0, api.Tick{}, api.ErrNone
	}
	if o.names[i].Open != 0 {
		return 0, api.Tick{}, api.ErrState
	}
	for _, x := range o.ticks[o.gone:] {
		if x.N > o.names[i].Last {
			return i, x, api.OK
		}
	}
	return 0, api.Tick{}, api.ErrWait
}

func (o *model) opens(name string) (api.Tick, api.Errno) {
	i, x, e := o.behind(name)
	if e == api.OK {
		e = o.append(entry.Entry{Kind: 5, Name: name, N: x.N})
	}
	if e != api.OK {
		return api.Tick{}, e
	}
	o.names[i].Open = x.N
	return x, api.OK
}

// opened is the tick up to which a consumer has a batch open, and the consumer's place.
func (o *model) opened(name string) (int, int64, api.Errno) {
	i := o.find(name)
	if i < 0 {
		return 0, 0, api.ErrNone
	}
	if o.names[i].Open == 0 {
		return 0, 0, api.ErrState
	}
	return i, o.names[i].Open, api.OK
}

func (o *model) finishes(name string) (int64, api.Errno) {
	i, n, e := o.opened(name)
	if e == api.OK {
		e = o.append(entry.Entry{Kind: 6, Name: name, N: n})
	}
	if e != api.OK {
		return 0, e
	}
	o.names[i].Last, o.names[i].Open = n, 0
	return n, api.OK
}

// snapshot is that of a tick that is kept.
func (o *model) snapshot(n int64) api.Snapshot {
	for _, x := range o.ticks[o.gone:] {
		if x.N == n {
			return x.Snap
		}
	}
	return api.Snapshot{}
}

func (o *model) batch(name string) ([]api.Event, api.Errno) {
	i, n, e := o.opened(name)
	if e != api.OK {
		return nil, e
	}
	from, to := o.snapshot(o.names[i].Last), o.snapshot(n)
	var l []api.Event
	for _, list := range o.lists {
		for _, one := range list {
			if one.Owner != "" && one.Owner != name || o.state(one.Tx) != 'c' || !seesOf(to, one.Tx) || seesOf(from, one.Tx) {
				continue
			}
			place := len(l)
			for place > 0 && one.ID < l[place-1].ID {
				place--
			}
			l = slices.Insert(l, place, one)
		}
	}
	return l, api.OK
}

// mayRetry is an event of a consumer's batch as it would come again.
func (o *model) mayRetry(name string, id int64) (api.Event, api.Errno) {
	l, e := o.batch(name)
	if e != api.OK {
		return api.Event{}, e
	}
	for _, one := range l {
		if one.ID != id {
			continue
		}
		for _, x := range o.items {
			if x.Event.ID == id && x.Event.Owner == name {
				return api.Event{}, api.ErrDup
			}
		}
		if len(o.items) == 16 {
			return api.Event{}, api.ErrFull
		}
		one.Owner = name
		one.Tries = min(one.Tries+1, 1<<31-1)
		return one, api.OK
	}
	return api.Event{}, api.ErrNone
}

func (o *model) retries(name string, id, when int64) api.Errno {
	one, e := o.mayRetry(name, id)
	if e == api.OK {
		e = o.append(entry.Entry{Kind: 7, Name: name, N: id, At: when})
	}
	if e == api.OK {
		o.items = append(o.items, retry.Item{At: when, Event: one})
	}
	return e
}

// ahead tells whether an item is told ahead of another one.
func ahead(a, b retry.Item) bool {
	if a.At != b.At {
		return a.At < b.At
	}
	if a.Event.ID != b.Event.ID {
		return a.Event.ID < b.Event.ID
	}
	return a.Event.Owner < b.Event.Owner
}

// waits are the items in order: each goes to its place among those ahead of it.
func (o *model) waits() []retry.Item {
	var sorted []retry.Item
	for _, x := range o.items {
		place := len(sorted)
		for place > 0 && ahead(x, sorted[place-1]) {
			place--
		}
		sorted = slices.Insert(sorted, place, x)
	}
	return sorted
}

func (o *model) maint(now int64) (int, api.Errno) {
	var due []api.Event
	for _, x := range o.waits() {
		if x.At <= now {
			due = append(due, x.Event)
		}
	}
	if len(due) == 0 {
		return 0, api.OK
	}
	x, e := o.begin()
	if e != api.OK {
		return 0, e
	}
	for i := range due {
		due[i].Tx = x
	}
	if e := o.append(entry.Entry{Kind: 8, Tx: x, Next: x + 1, NextID: o.id, Events: in(o.cur, due...), At: now}); e != api.OK {
		o.end(x, 'a')
		return 0, e
	}
	o.end(x, 'c')
	o.lists[o.cur] = append(o.lists[o.cur], due...)
	o.items = slices.DeleteFunc(o.items, func(x retry.Item) bool { return x.At <= now })
	return len(due), api.OK
}

// wanted tells whether somebody may still want an event.
func (o *model) wanted(e api.Event) bool {
	if o.state(e.Tx) != 'c' {
		return o.state(e.Tx) == 'o'
	}
	for _, c := range o.names {
		if !seesOf(o.snapshot(c.Last), e.Tx) {
			return true
		}
	}
	return len(o.ticks) > 0 && !seesOf(o.snapshot(int64(len(o.ticks))), e.Tx)
}

func (o *model) free() bool {
	for _, e := range o.lists[(o.cur+1)%3] {
		if o.wanted(e) {
			return false
		}
	}
	return true
}

// round is a Rotate, if that is free; 0: it isn't.
func (o *model) round(free bool) byte {
	next := (o.cur + 1) % 3
	switch {
	case len(o.lists[next]) == 0:
		o.cur = next
		return 2
	case free:
		o.lists[next] = nil
		return 1
	}
	return 0
}

func (o *model) rotate() (byte, api.Errno) {
	n := byte(2)
	if len(o.lists[(o.cur+1)%3]) > 0 {
		n = 1
		if !o.free() {
			return 0, api.ErrWait
		}
	}
	if e := o.append(entry.Entry{Kind: 9, N: int64(n)}); e != api.OK {
		return 0, e
	}
	return o.round(true), api.OK
}

// trimBelow lets the ticks below a number go, but the last one.
func (o *model) trimBelow(n int64) int {
	was := o.gone
	for o.gone < len(o.ticks)-1 && o.ticks[o.gone].N < n {
		o.gone++
	}
	return o.gone - was
}

func (o *model) trim() (int, api.Errno) {
	below := int64(far)
	for _, c := range o.names {
		below = min(below, c.Last)
	}
	if o.gone >= len(o.ticks)-1 || o.ticks[o.gone].N >= below {
		return 0, api.OK
	}
	if e := o.append(entry.Entry{Kind: 10, N: below}); e != api.OK {
		return 0, e
	}
	return o.trimBelow(below), api.OK
}
