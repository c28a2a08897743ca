package source_test

import (
	"fmt"
	"math/rand"
	"slices"
	"testing"

	"carrier/api"
	"carrier/block"
	"carrier/source"
)

// world is a source while clients, ticks and consumers come and go, and crashes, and what was done to it, by the steps
// at which it was.
type world struct {
	t         *testing.T
	r         *rand.Rand
	d         *block.Device
	s         *source.Source
	now       int64
	step      int
	wrote     map[int64][]api.Event // by transactions, what must be told; without IDs
	committed map[int64]int
	ticked    map[int64]int
	from      map[string]int64 // the tick at which a consumer was registered
	told      map[string][]heard
	retried   map[string]int // how many come again
	crashes   int
}

// heard is an event that a consumer was told, and the tick of that batch.
type heard struct {
	tick int64
	api.Event
}

func newWorld(t *testing.T, seed int64) *world {
	t.Helper()
	d := block.New(api.MaxBlocks)
	return &world{
		t: t, r: rand.New(rand.NewSource(seed)), d: d, s: open(t, d, 3, 2),
		wrote: map[int64][]api.Event{}, committed: map[int64]int{}, ticked: map[int64]int{},
		from: map[string]int64{}, told: map[string][]heard{}, retried: map[string]int{},
	}
}

func (w *world) tick() {
	if x, e := w.s.Tick(w.now); e == api.OK {
		w.ticked[x.N] = w.step
	}
}

func (w *world) register(name string) {
	if _, there := w.from[name]; !there && w.s.Register(name) == api.OK {
		w.from[name] = w.s.Queue().Ticks().Last()
	}
}

func (w *world) begin() {
	if x, e := w.s.Begin(); e == api.OK {
		delete(w.wrote, x) // whoever had that number was lost
	}
}

// run does a statement, and keeps which events it must have told.
func (w *world) run(x int64) {
	kind, table := []byte{1, 1, 1, 2, 2, 3, 4}[w.r.Intn(7)], w.r.Intn(3)
	st := stmt(kind, table, int64(w.r.Intn(6)), fmt.Sprint(w.step))
	rows, e := w.s.Run(x, st)
	if e != api.OK || table == 2 {
		return
	}
	if kind < 4 {
		rows = []api.Row{st.Row}
	}
	for _, r := range rows {
		if kind > 2 {
			r.Text = ""
		}
		w.wrote[x] = append(w.wrote[x], event(0, x, table, kind, r.Key, r.Text))
	}
}

func (w *world) commit(x int64) {
	w.t.Helper()
	if e := w.s.Commit(x); e != api.OK {
		w.t.Fatal(x, e)
	}
	w.committed[x] = w.step
}

// read opens a consumer's batch, if none is open, and mostly finishes it; some of its events may come again.
func (w *world) read(name string, often int) {
	w.t.Helper()
	w.s.Next(name)
	l, e := w.s.Batch(name)
	if e != api.OK || w.r.Intn(4) == 0 {
		return
	}
	for _, e := range l {
		if w.r.Intn(100) < often && w.s.Retry(name, e.ID, w.now+int64(w.r.Intn(9))) == api.OK {
			w.retried[name]++
		}
	}
	n, f := w.s.Finish(name)
	if f != api.OK {
		w.t.Fatal(name, f)
	}
	for _, e := range l {
		e.ID = 0
		w.told[name] = append(w.told[name], heard{n, e})
	}
}

// crash loses whatever waits, or some of it: who was just being committed is, or isn't.
func (w *world) crash() {
	w.t.Helper()
	w.crashes++
	before := map[int64]bool{}
	for x := range w.committed {
		before[x] = true
	}
	x := int64(0)
	if l := w.s.Manager().Now().Open; len(l) > 0 && w.r.Intn(2) == 0 {
		x = l[w.r.Intn(len(l))]
		w.s.Stage(x)
	}
	w.d.Crash([]bool{w.r.Intn(3) == 0, w.r.Intn(3) == 0}, w.r.Intn(40))
	w.s = open(w.t, w.d, 3, 2)
	if x > 0 && w.s.Manager().State(x) == 2 {
		w.committed[x] = w.step
		before[x] = true
	}
	for y := range w.s.Manager().Next() {
		if (w.s.Manager().State(y) == 2) != (before[y] || w.committed[y] > 0) {
			w.t.Fatal(y, w.s.Manager().State(y))
		}
	}
}

// maint lets what is due come again: its transaction is committed, and writes nothing of its own.
func (w *world) maint() {
	x := w.s.Manager().Next()
	if n, e := w.s.Maint(w.now); n > 0 && e == api.OK {
		delete(w.wrote, x)
		w.committed[x] = w.step
	}
}

// readers are the consumers that stay.
func readers() []string {
	return []string{"a", "b", api.Replica}
}

// any does one step of any kind.
func (w *world) any(often int) {
	w.t.Helper()
	w.step++
	w.now = int64(w.step / 8)
	l := w.s.Manager().Now().Open
	name := readers()[w.r.Intn(len(readers()))]
	switch kind := w.r.Intn(26); {
	case kind < 2 || len(l) == 0:
		w.begin()
	case kind < 9:
		w.run(l[w.r.Intn(len(l))])
	case kind < 11:
		w.commit(l[w.r.Intn(len(l))])
	case kind < 12:
		w.s.Abort(l[w.r.Intn(len(l))])
	case kind < 14:
		w.tick()
	case kind < 15:
		w.register(name)
	case kind < 18:
		w.read(name, often)
	case kind < 19:
		w.passes()
	case kind < 20:
		w.maint()
	case kind < 21:
		w.s.Trim()
	case kind < 22:
		if w.r.Intn(3) == 0 {
			w.crash()
		}
	case kind < 23:
		w.s.Vacuum()
	default:
		w.s.Rotate()
	}
}

// passes lets one come or go who finishes nothing.
func (w *world) passes() {
	if w.s.Unregister("passer") != api.OK {
		w.s.Register("passer")
		w.s.Next("passer")
	}
}

// drain lets work go on: no transaction stays open, all is told, what comes again does so, and the tables are emptied.
func (w *world) drain() {
	w.t.Helper()
	w.s.Unregister("passer")
	for range 20 {
		w.step++
		w.now += 3
		for _, x := range w.s.Manager().Now().Open {
			w.commit(x)
		}
		w.tick()
		for _, name := range readers() {
			for range 200 { // some rounds finish nothing
				w.read(name, 0)
			}
		}
		w.maint()
		w.s.Trim()
		w.s.Rotate()
		w.s.Rotate()
	}
	if got := tell(w.s); w.s.Queue().Spools().Len() != 0 || len(got.items) != 0 || len(got.ticks) != 1 {
		w.t.Fatal(short(got.text()))
	}
}

// each tells a fault if a consumer wasn't told each event of those that were committed behind the tick at which it was
// registered just once, each transaction's together, in the order of its statements, and nothing else.
func (w *world) each(name string) {
	w.t.Helper()
	told := slices.DeleteFunc(slices.Clone(w.told[name]), func(e heard) bool { return e.Owner == name })
	if again := len(w.told[name]) - len(told); again != w.retried[name] {
		w.t.Fatal(name, again, w.retried[name])
	}
	count := 0
	for x, when := range w.committed {
		ofX := slices.DeleteFunc(slices.Clone(told), func(e heard) bool { return e.Tx != x })
		wrote := w.wrote[x]
		if when <= w.ticked[w.from[name]] {
			wrote = nil
		}
		if !slices.EqualFunc(ofX, wrote, func(a heard, b api.Event) bool { return a.Event == b && a.tick == ofX[0].tick }) {
			w.t.Fatalf("%s, %d: %v, not %v", name, x, ofX, wrote)
		}
		count += len(wrote)
	}
	if len(told) != count {
		w.t.Fatal(name, len(told), count)
	}
}

func testWorlds(t *testing.T, often int) {
	t.Helper()
	told, again, crashes := 0, 0, 0
	for seed := range int64(40) {
		w := newWorld(t, seed)
		for range 400 {
			w.any(often)
		}
		w.drain()
		for _, name := range readers() {
			if w.from[name] == 0 {
				continue
			}
			w.each(name)
			told += len(w.told[name])
			again += w.retried[name]
		}
		crashes += w.crashes
	}
	if told < 1000 || again < 2*often || crashes < 100 {
		t.Error(told, again, crashes)
	}
}

func TestEachEventIsToldOnce(t *testing.T) {
	testWorlds(t, 0)
}

func TestWhatIsRetriedComesAgain(t *testing.T) {
	testWorlds(t, 30)
}
