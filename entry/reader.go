package entry

import (
	"math"

	"carrier/api"
	"carrier/code"
	"carrier/event"
)

const (
	mostPlace = 255 // the greatest number of a table, or of a spool
	mostFlag  = 1
	mostEvent = 400 // bytes of an event
)

// reader reads an entry's parts. Its reader of bytes knows layer 2's errors alone, and reads on behind
// all others: the first one of these stands beside it, unless one of layer 2's was met ahead of it.
type reader struct {
	from *code.Reader
	err  api.Errno
}

// parts reads what the entry's Kind has.
func (r *reader) parts(e *Entry) {
	switch e.Kind {
	case Commit:
		e.Tx, e.Next, e.NextID = r.num(), r.num(), r.num()
		e.Ops = r.ops()
		e.Events = r.events()
	case Maint:
		e.Tx, e.Next, e.NextID = r.num(), r.num(), r.num()
		e.Events = r.events()
		e.At = r.from.Int()
	case Tick:
		e.Tick = r.tick()
	case Register, Unregister, Open, Finish:
		e.Name = r.from.Text(api.MaxText)
		e.N = r.num()
	case Retry:
		e.Name = r.from.Text(api.MaxText)
		e.N = r.num()
		e.At = r.from.Int()
	case Rotate, Trim:
		e.N = r.num()
	case Applied:
		e.N = r.num()
		e.Ops = r.ops()
	default:
		r.meet(api.ErrForm)
	}
}

func (r *reader) tick() api.Tick {
	var t api.Tick
	t.N, t.Snap.Max = r.num(), r.num()
	r.many(func() {
		t.Snap.Open = append(t.Snap.Open, r.num())
	})
	t.At = r.from.Int()
	return t
}

func (r *reader) ops() []Op {
	var l []Op
	r.many(func() {
		var o Op
		o.Table = int(r.upTo(mostPlace))
		o.Gone = r.upTo(mostFlag) == flag(true)
		o.Row.Key = r.from.Int()
		o.Row.Text = r.from.Text(api.MaxText)
		l = append(l, o)
	})
	return l
}

func (r *reader) events() []Placed {
	var l []Placed
	r.many(func() {
		var p Placed
		p.Spool = int(r.upTo(mostPlace))
		p.Event = r.event()
		l = append(l, p)
	})
	return l
}

// event reads an event as a text: its own error is met behind all of that text's bytes.
func (r *reader) event() api.Event {
	e, err := event.Decode([]byte(r.from.Text(mostEvent)))
	r.meet(err)
	return e
}

// many reads how many there are, and so many by one, up to the first error.
func (r *reader) many(one func()) {
	count := r.upTo(most)
	for i := int64(0); i < count && r.first() == api.OK; i++ {
		one()
	}
}

func (r *reader) num() int64 {
	return r.upTo(math.MaxInt64)
}

// upTo reads a number that must not be above greatest.
func (r *reader) upTo(greatest int64) int64 {
	n := r.from.Num()
	if n > uint64(greatest) {
		r.meet(api.ErrForm)
	}
	return int64(n)
}

// first is the error that was met first, if there was one.
func (r *reader) first() api.Errno {
	if r.err != api.OK {
		return r.err
	}
	return r.from.Error()
}

// meet keeps an error, if it is the first one.
func (r *reader) meet(err api.Errno) {
	if r.first() == api.OK {
		r.err = err
	}
}

// end is the first error of all, bytes that are left being the last that may be met.
func (r *reader) end() api.Errno {
	r.meet(r.from.End())
	return r.first()
}
