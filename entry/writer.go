package entry

import (
	"carrier/api"
	"carrier/code"
	"carrier/event"
)

// writer lays an entry's parts, those that may not be laid, too: they make all of it bad.
type writer struct {
	to  code.Writer
	bad bool
}

// parts lays what the entry's Kind has, in the order in which the reader's parts reads it.
func (w *writer) parts(e Entry) {
	switch e.Kind {
	case Commit:
		w.nums(e.Tx, e.Next, e.NextID)
		w.ops(e.Ops)
		w.events(e.Events)
	case Maint:
		w.nums(e.Tx, e.Next, e.NextID)
		w.events(e.Events)
		w.to.Int(e.At)
	case Tick:
		w.tick(e.Tick)
	case Register, Unregister, Open, Finish:
		w.text(e.Name)
		w.nums(e.N)
	case Retry:
		w.text(e.Name)
		w.nums(e.N)
		w.to.Int(e.At)
	case Rotate, Trim:
		w.nums(e.N)
	case Applied:
		w.nums(e.N)
		w.ops(e.Ops)
	}
}

func (w *writer) tick(t api.Tick) {
	w.nums(t.N, t.Snap.Max)
	w.many(len(t.Snap.Open), func(i int) { w.nums(t.Snap.Open[i]) })
	w.to.Int(t.At)
}

func (w *writer) ops(l []Op) {
	w.many(len(l), func(i int) {
		o := l[i]
		w.nums(int64(o.Table), flag(o.Gone))
		w.to.Int(o.Row.Key)
		w.text(o.Row.Text)
	})
}

func (w *writer) events(l []Placed) {
	w.many(len(l), func(i int) {
		w.nums(int64(l[i].Spool))
		w.must(event.Right(l[i].Event))
		w.to.Text(string(event.Encode(l[i].Event)))
	})
}

// many lays how many there are, and each by one. Where it's bad already it lays none of them: there may be very many.
func (w *writer) many(count int, one func(i int)) {
	w.must(count <= most)
	if w.bad {
		return
	}
	w.nums(int64(count))
	for i := range count {
		one(i)
	}
}

// nums lays numbers, as many as there are, of which none may be below 0.
func (w *writer) nums(l ...int64) {
	for _, n := range l {
		w.must(n >= 0)
		w.to.Num(uint64(n))
	}
}

func (w *writer) text(s string) {
	w.must(len(s) <= api.MaxText)
	w.to.Text(s)
}

// must makes all of it bad unless that holds.
func (w *writer) must(holds bool) {
	w.bad = w.bad || !holds
}

// flag is a yes or a no as a number.
func flag(yes bool) int64 {
	if yes {
		return 1
	}
	return 0
}
