package queue_test

import (
	"slices"

	"carrier/api"
	"carrier/cursor"
	"carrier/retry"
)

// model is a queue, and its manager, as the chapters word them: it calls nothing of the program.
type model struct {
	states []byte // of transactions, from 1 on: o, c, a
	id     int64
	cur    int
	tables [3][]api.Event
	ticks  []api.Tick // all that there ever were
	gone   int        // so many of them, the first ones, are let go
	names  []cursor.Cursor
	items  []retry.Item // as they came
}

func (o *model) state(x int64) byte {
	if x < 1 || x > int64(len(o.states)) {
		return ' '
	}
	return o.states[x-1]
}

func (o *model) now() api.Snapshot {
	s := api.Snapshot{Max: int64(len(o.states)) + 1}
	for i, state := range o.states {
		if state == 'o' {
			s.Open = append(s.Open, int64(i)+1)
		}
	}
	return s
}

// sees asks each number alone.
func sees(s api.Snapshot, x int64) bool {
	for _, o := range s.Open {
		if o == x {
			return false
		}
	}
	return 1 <= x && x < s.Max
}

func covers(a, b api.Snapshot) bool {
	for x := int64(1); x < b.Max; x++ {
		if sees(b, x) && !sees(a, x) {
			return false
		}
	}
	return true
}

func (o *model) write(x int64, table int, kind byte, r api.Row) api.Event {
	e := api.Event{ID: o.id, Tx: x, Table: table, Kind: kind, Row: r}
	o.tables[o.cur] = append(o.tables[o.cur], e)
	o.id++
	return e
}

func (o *model) forget(x int64) int {
	n := 0
	for i, l := range o.tables {
		var left []api.Event
		for _, e := range l {
			if e.Tx == x {
				n++
			} else {
				left = append(left, e)
			}
		}
		o.tables[i] = left
	}
	return n
}

func (o *model) tick(now int64) (api.Tick, api.Errno) {
	kept := o.ticks[o.gone:]
	if len(kept) == 64 {
		return api.Tick{}, api.ErrFull
	}
	x := api.Tick{N: int64(len(o.ticks)) + 1, Snap: o.now(), At: now}
	if len(kept) > 0 {
		last := kept[len(kept)-1]
		if !covers(x.Snap, last.Snap) || now < last.At {
			return api.Tick{}, api.ErrArg
		}
	}
	o.ticks = append(o.ticks, x)
	return x, api.OK
}

// find is a consumer's place, or -1.
func (o *model) find(name string) int {
	for i, c := range o.names {
		if c.Name == name {
			return i
		}
	}
	return -1
}

func (o *model) register(name string) api.Errno {
	switch {
	case len(o.ticks) == 0:
		return api.ErrWait
	case len(name) == 0 || len(name) > 40:
		return api.ErrArg
	case o.find(name) >= 0:
		return api.ErrDup
	case len(o.names) == 4:
		return api.ErrFull
	}
	o.names = append(o.names, cursor.Cursor{Name: name, Last: int64(len(o.ticks))})
	return api.OK
}

func (o *model) unregister(name string) api.Errno {
	i := o.find(name)
	if i < 0 {
		return api.ErrNone
	}
	o.names = slices.Delete(o.names, i, i+1)
	var left []retry.Item
	for _, x := range o.items {
		if x.Event.Owner != name {
			left = append(left, x)
		}
	}
	o.items = left
	return api.OK
}

func (o *model) next(name string) (api.Tick, api.Errno) {
	i := o.find(name)
	if i < 0 {
		return api.Tick{}, api.ErrNone
	}
	if o.names[i].Open != 0 {
		return api.Tick{}, api.ErrState
	}
	for _, x := range o.ticks[o.gone:] {
		if x.N > o.names[i].Last {
			o.names[i].Open = x.N
			return x, api.OK
		}
	}
	return api.Tick{}, api.ErrWait
}

// byIDs are events with the least ID first, again and again, and of like ones the first one.
func byIDs(l []api.Event) []api.Event {
	var sorted []api.Event
	for len(l) > 0 {
		least := 0
		for i, e := range l {
			if e.ID < l[least].ID {
				least = i
			}
		}
		sorted = append(sorted, l[least])
		l = slices.Delete(l, least, least+1)
	}
	return sorted
}

func (o *model) batch(name string) ([]api.Event, api.Errno) {
	i := o.find(name)
	if i < 0 {
		return nil, api.ErrNone
	}
	c := o.names[i]
	if c.Open == 0 {
		return nil, api.ErrState
	}
	from, to := o.ticks[c.Last-1].Snap, o.ticks[c.Open-1].Snap
	var l []api.Event
	for _, table := range o.tables {
		for _, e := range table {
			if (e.Owner == "" || e.Owner == name) && o.state(e.Tx) == 'c' && sees(to, e.Tx) && !sees(from, e.Tx) {
				l = append(l, e)
			}
		}
	}
	return byIDs(l), api.OK
}

func (o *model) finish(name string) (int64, api.Errno) {
	i := o.find(name)
	if i < 0 {
		return 0, api.ErrNone
	}
	n := o.names[i].Open
	if n == 0 {
		return 0, api.ErrState
	}
	o.names[i].Last, o.names[i].Open = n, 0
	return n, api.OK
}

func (o *model) retry(name string, id, when int64) api.Errno {
	l, refusal := o.batch(name)
	if refusal != api.OK {
		return refusal
	}
	for _, e := range l {
		if e.ID == id {
			return o.comesAgain(e, name, when)
		}
	}
	return api.ErrNone
}

func (o *model) comesAgain(e api.Event, name string, when int64) api.Errno {
	for _, x := range o.items {
		if x.Event.ID == e.ID && x.Event.Owner == name {
			return api.ErrDup
		}
	}
	if len(o.items) == 16 {
		return api.ErrFull
	}
	e.Owner = name
	if e.Tries != largest {
		e.Tries++
	}
	o.items = append(o.items, retry.Item{At: when, Event: e})
	return api.OK
}

// below tells whether an item is told ahead of another one.
func below(a, b retry.Item) bool {
	if a.At != b.At {
		return a.At < b.At
	}
	if a.Event.ID != b.Event.ID {
		return a.Event.ID < b.Event.ID
	}
	return a.Event.Owner < b.Event.Owner
}

// waits are the items in order: each goes to its place among those ahead of it.
func (o *model) waits() []retry.Item {
	var sorted []retry.Item
	for _, x := range o.items {
		place := len(sorted)
		for place > 0 && below(x, sorted[place-1]) {
			place--
		}
		sorted = slices.Insert(sorted, place, x)
	}
	return sorted
}

func (o *model) maint(x, now int64) []api.Event {
	var l []api.Event
	var left []retry.Item
	for _, item := range o.waits() {
		if item.At > now {
			left = append(left, item)
			continue
		}
		e := item.Event
		e.Tx = x
		l = append(l, e)
		o.tables[o.cur] = append(o.tables[o.cur], e)
	}
	o.items = left
	return l
}

func (o *model) behind() int {
	return [3]int{1, 2, 0}[o.cur]
}

// wanted tells whether somebody may still want an event.
func (o *model) wanted(e api.Event) bool {
	if o.state(e.Tx) != 'c' {
		return o.state(e.Tx) == 'o'
	}
	for _, c := range o.names {
		if !sees(o.ticks[c.Last-1].Snap, e.Tx) {
			return true
		}
	}
	return len(o.ticks) > 0 && !sees(o.ticks[len(o.ticks)-1].Snap, e.Tx)
}

func (o *model) free() bool {
	for _, e := range o.tables[o.behind()] {
		if o.wanted(e) {
			return false
		}
	}
	return true
}

func (o *model) rotate() (byte, api.Errno) {
	switch {
	case len(o.tables[o.behind()]) == 0:
		o.cur = o.behind()
		return 2, api.OK
	case o.free():
		o.tables[o.behind()] = nil
		return 1, api.OK
	}
	return 0, api.ErrWait
}

func (o *model) trim() int {
	was := o.gone
	for o.gone < len(o.ticks)-1 {
		n := int64(o.gone) + 1
		for _, c := range o.names {
			if c.Last <= n {
				return o.gone - was
			}
		}
		o.gone++
	}
	return o.gone - was
}

// tell is all that the queue must tell of itself.
func (o *model) tell() told {
	is := told{id: o.id, cur: o.cur, lists: o.tables, last: int64(len(o.ticks)), ticks: o.ticks[o.gone:], items: o.waits(), free: o.free()}
	for _, c := range o.names {
		place := len(is.names)
		for place > 0 && c.Name < is.names[place-1].Name {
			place--
		}
		is.names = slices.Insert(is.names, place, c)
	}
	for _, c := range is.names {
		l, e := o.batch(c.Name)
		is.opens = append(is.opens, opened{l, e})
	}
	return is
}
