package queue_test

import (
	"math/rand"
	"slices"
	"testing"

	"carrier/api"
	"carrier/queue"
	"carrier/txn"
)

// world is a queue while transactions, ticks and consumers come and go, and what was done to it, by the steps at which it was.
type world struct {
	t         *testing.T
	r         *rand.Rand
	m         *txn.Manager
	q         *queue.Queue
	now       int64
	step      int
	wrote     map[int64][]api.Event // by transactions
	committed map[int64]int
	ticked    map[int64]int
	from      map[string]int64 // the tick at which a consumer was registered
	told      map[string][]heard
	retried   map[string]int // how many come again
}

// heard is an event that a consumer was told, and the tick of that batch.
type heard struct {
	tick int64
	api.Event
}

func newWorld(t *testing.T, seed int64) *world {
	m := txn.New()
	return &world{
		t: t, r: rand.New(rand.NewSource(seed)), m: m, q: queue.New(m),
		wrote: map[int64][]api.Event{}, committed: map[int64]int{}, ticked: map[int64]int{},
		from: map[string]int64{}, told: map[string][]heard{}, retried: map[string]int{},
	}
}

func (w *world) tick() {
	if x, e := w.q.Tick(w.now); e == api.OK {
		w.ticked[x.N] = w.step
	}
}

func (w *world) register(name string) {
	if _, there := w.from[name]; !there && w.q.Register(name) == api.OK {
		w.from[name] = w.q.Ticks().Last()
	}
}

func (w *world) commit(x int64) {
	w.m.Commit(x)
	w.committed[x] = w.step
}

// read opens a consumer's batch, if none is open, and mostly finishes it; some of its events may come again.
func (w *world) read(name string, often int) {
	w.t.Helper()
	w.q.Next(name)
	l, e := w.q.Batch(name)
	if e != api.OK || w.r.Intn(4) == 0 {
		return
	}
	for _, e := range l {
		if w.r.Intn(100) < often && w.q.Retry(name, e.ID, w.now+int64(w.r.Intn(9))) == api.OK {
			w.retried[name]++
		}
	}
	n, f := w.q.Finish(name)
	if f != api.OK {
		w.t.Fatal(name, f)
	}
	for _, e := range l {
		w.told[name] = append(w.told[name], heard{n, e})
	}
}

// maint lets what is due come again, in a transaction of its own.
func (w *world) maint() {
	w.t.Helper()
	if len(w.q.Retries().Due(w.now)) == 0 {
		return
	}
	x, e := w.m.Begin()
	if e != api.OK {
		return
	}
	w.q.Maint(x, w.now)
	if w.r.Intn(2) == 0 {
		w.tick() // which doesn't see it yet
	}
	w.commit(x)
}

// readers are the consumers that stay.
func readers() []string {
	return []string{"a", "b", api.Replica}
}

// any does one step of any kind.
func (w *world) any(often int) {
	w.t.Helper()
	w.step++
	w.now = int64(w.step / 8)
	open := w.m.Now().Open
	name := readers()[w.r.Intn(len(readers()))]
	switch kind := w.r.Intn(24); {
	case kind < 2 || len(open) == 0:
		w.m.Begin()
	case kind < 9:
		x := open[w.r.Intn(len(open))]
		w.wrote[x] = append(w.wrote[x], w.q.Write(x, w.r.Intn(4), byte(1+w.r.Intn(4)), api.Row{Key: w.r.Int63()}))
	case kind < 11:
		w.commit(open[w.r.Intn(len(open))])
	case kind < 12:
		x := open[w.r.Intn(len(open))]
		w.m.Abort(x)
		if w.r.Intn(2) == 0 { // a source does so at once
			w.q.Forget(x)
		}
	case kind < 14:
		w.tick()
	case kind < 15:
		w.register(name)
	case kind < 18:
		w.read(name, often)
	case kind < 19:
		w.passes()
	case kind < 20:
		w.maint()
	case kind < 21:
		w.q.Trim()
	default:
		w.q.Rotate()
	}
}

// passes lets one come or go who finishes nothing.
func (w *world) passes() {
	if w.q.Unregister("passer") != api.OK {
		w.q.Register("passer")
		w.q.Next("passer")
	}
}

// drain lets work go on: no transaction stays open, all is told, what comes again does so, and the tables are emptied.
func (w *world) drain() {
	w.t.Helper()
	w.q.Unregister("passer")
	for range 20 {
		w.step++
		w.now += 3
		for _, x := range w.m.Now().Open {
			w.commit(x)
		}
		w.tick()
		for _, name := range readers() {
			for range 200 { // some rounds finish nothing
				w.read(name, 0)
			}
		}
		w.maint()
		w.q.Trim()
		w.q.Rotate()
		w.q.Rotate()
	}
	if got := tell(w.q); w.q.Spools().Len() != 0 || len(got.items) != 0 || len(got.ticks) != 1 {
		w.t.Fatal(short(got))
	}
}

// firsts are what a consumer was told that didn't come again, and how many came again.
func (w *world) firsts(name string) ([]heard, int) {
	w.t.Helper()
	var l []heard
	again := 0
	for _, e := range w.told[name] {
		switch e.Owner {
		case "":
			l = append(l, e)
		case name:
			again++
		default:
			w.t.Fatal(name, short(e))
		}
	}
	return l, again
}

// each tells a fault if a consumer wasn't told each event of those that were committed behind the tick at which it was
// registered just once, each transaction's together, in the order in which they were written, and nothing else.
func (w *world) each(name string) {
	w.t.Helper()
	told, again := w.firsts(name)
	if again != w.retried[name] {
		w.t.Fatal(name, again, w.retried[name])
	}
	count := 0
	for x, wrote := range w.wrote {
		ofX := slices.DeleteFunc(slices.Clone(told), func(e heard) bool { return e.Tx != x })
		when, committed := w.committed[x]
		if !committed || when <= w.ticked[w.from[name]] {
			wrote = nil
		}
		if !slices.EqualFunc(ofX, wrote, func(a heard, b api.Event) bool { return a.Event == b && a.tick == ofX[0].tick }) {
			w.t.Fatalf("%s, %d: %s, not %s", name, x, short(ofX), short(wrote))
		}
		count += len(wrote)
	}
	if len(told) != count {
		w.t.Fatal(name, len(told), count)
	}
}

func testWorlds(t *testing.T, often int) {
	t.Helper()
	told, again, emptied := 0, 0, 0
	for seed := range int64(150) {
		w := newWorld(t, seed)
		for range 400 {
			was := w.q.Spools().Len()
			w.any(often)
			if w.q.Spools().Len() < was {
				emptied++
			}
		}
		w.drain()
		for _, name := range readers() {
			if w.from[name] == 0 {
				continue
			}
			w.each(name)
			told += len(w.told[name])
			again += w.retried[name]
		}
	}
	if told < 5000 || emptied < 500 || again < 10*often {
		t.Error(told, emptied, again)
	}
}

func TestEachEventIsToldOnce(t *testing.T) {
	testWorlds(t, 0)
}

func TestWhatIsRetriedComesAgain(t *testing.T) {
	testWorlds(t, 30)
}

// The chapter's example.
func TestExample(t *testing.T) {
	q := queue.New(txn.New())
	if e := q.Register("a"); e != api.ErrWait {
		t.Error(e)
	}
}
