package source_test

import (
	"fmt"
	"math/rand"
	"testing"

	"carrier/api"
	"carrier/block"
	"carrier/entry"
	"carrier/rel"
	"carrier/source"
)

// walk is a source to which anything is done, and its model.
type walk struct {
	t        *testing.T
	r        *rand.Rand
	d        *block.Device
	s        *source.Source
	o        *model
	now      int64
	trail    []string
	refused  map[api.Errno]int
	found    int // staged records that were there behind a crash
	lost     int
	answered map[string]int
}

func newWalk(t *testing.T, seed int64, blocks, tables, traced int) *walk {
	t.Helper()
	d := block.New(blocks)
	return &walk{
		t: t, r: rand.New(rand.NewSource(seed)), d: d, s: open(t, d, tables, traced), o: newModel(tables, traced, blocks),
		refused: map[api.Errno]int{}, answered: map[string]int{},
	}
}

func (w *walk) fail(text ...any) {
	w.t.Helper()
	w.t.Fatal(w.trail[max(0, len(w.trail)-30):], short(fmt.Sprintln(text...)))
}

// same tells a fault if a call tells something else than the model.
func (w *walk) same(call string, got, want any, a, b api.Errno) {
	w.t.Helper()
	w.trail = append(w.trail, call)
	w.refused[a]++
	w.answered[call[:1]]++
	if x, y := fmt.Sprintf("%v %d", got, a), fmt.Sprintf("%v %d", want, b); x != y {
		w.fail(call, ":", x, ", not", y)
	}
	if n := w.d.Waiting(); n > 0 {
		w.fail(call, n, "writes wait")
	}
}

func (w *walk) whole() {
	w.t.Helper()
	if got, want := tell(w.s).text(), w.o.tell().text(); got != want {
		w.fail("\n", got, "\nnot\n", want)
	}
}

func one[X any](w *walk, l ...X) X {
	return l[w.r.Intn(len(l))]
}

// tx is mostly one who is open.
func (w *walk) tx() int64 {
	l := w.o.now().Open
	if len(l) == 0 || w.r.Intn(25) == 0 {
		return one(w, deep, -1, 0, 1, w.o.next()-1, w.o.next(), far)
	}
	return one(w, l...)
}

func (w *walk) statement(keys int) rel.Stmt {
	kind := one[byte](w, 1, 1, 1, 1, 1, 1, 2, 2, 2, 3, 3, 4, 5, 6)
	table := w.r.Intn(w.o.tables)
	key := int64(w.r.Intn(keys))
	text := one(w, "", "a", "b", "c", "d", "e", letters("x", 40))
	switch w.r.Intn(60) {
	case 0:
		kind = one[byte](w, 0, 7, 255)
	case 1:
		table = one(w, -1, w.o.tables, far, deep)
	case 2:
		key = one[int64](w, -1, deep, far)
	case 3:
		text = letters("x", 41)
	}
	return stmt(kind, table, key, text)
}

func (w *walk) run(times, keys int) {
	w.t.Helper()
	x := w.tx()
	for range times {
		st := w.statement(keys)
		got, a := w.s.Run(x, st)
		want, b := w.o.run(x, st)
		w.same(fmt.Sprint("run ", x, st), got, want, a, b)
	}
}

func (w *walk) name() string {
	switch w.r.Intn(30) {
	case 0:
		return one(w, "", letters("a", 41), "nobody")
	case 1:
		return one(w, "d", "e", letters("é", 20))
	}
	return one(w, "a", "b", api.Replica)
}

// retry lets any event come again, or one that is in a consumer's batch.
func (w *walk) retry() {
	w.t.Helper()
	name, id, when := w.name(), int64(w.r.Intn(int(w.o.id)+1)), w.now+int64(w.r.Intn(7))
	if l, _ := w.o.batch(name); len(l) > 0 && w.r.Intn(8) > 0 {
		id = one(w, l...).ID
	}
	w.same(fmt.Sprint("!", name, id, when), 0, 0, w.s.Retry(name, id, when), w.o.retries(name, id, when))
}

// crash stages somebody's work, or nobody's, and lets the device crash: the source is opened again.
func (w *walk) crash() {
	w.t.Helper()
	x := one(w, w.tx(), -1)
	e, is := w.o.committing(x)
	staged := false
	log, size := w.o.log, w.o.size
	if is && w.o.append(e) == api.OK {
		staged = true
		w.o.log, w.o.size = log, size
	}
	if (w.s.Stage(x) == api.OK) != staged {
		w.fail("Stage", x, staged)
	}
	all := w.d.Waiting()
	lost := make([]bool, w.r.Intn(all+2))
	for i := range lost {
		lost[i] = w.r.Intn(4) == 0
	}
	torn := w.r.Intn(40) - 4
	if w.r.Intn(3) == 0 {
		lost, torn = nil, 32
	}
	w.d.Crash(lost, torn)
	w.trail = append(w.trail, fmt.Sprint("crash", x, lost, torn))
	if n := len(records(w.d)) - len(log); n == 1 && staged {
		w.found++
		log = append(log[:len(log):len(log)], e)
	} else if n != 0 || staged && lost == nil && torn == 32 {
		w.fail(n, staged, lost, torn)
	} else if staged {
		w.lost++
	}
	w.again(log)
}

// again opens the device again, of which the log has these entries.
func (w *walk) again(log []entry.Entry) {
	w.t.Helper()
	w.s = open(w.t, w.d, w.o.tables, w.o.traced)
	if w.o = w.o.again(log); w.o == nil {
		w.fail("the log can't be done again")
	}
	w.whole()
}

// any does one step of any kind.
func (w *walk) any(keys int) {
	w.t.Helper()
	w.now += int64(w.r.Intn(8) / 7)
	switch kind := w.r.Intn(40); {
	case kind < 4:
		x, a := w.s.Begin()
		y, b := w.o.begin()
		w.same("begin", x, y, a, b)
	case kind < 12:
		w.run(1+w.r.Intn(3), keys)
	case kind < 16:
		x := w.tx()
		w.same(fmt.Sprint("commit ", x), 0, 0, w.s.Commit(x), w.o.commit(x))
	case kind < 18:
		x := w.tx()
		w.same(fmt.Sprint("x abort ", x), 0, 0, w.s.Abort(x), w.o.abort(x))
	case kind == 18:
		w.run(45, 60)
	case kind == 19:
		w.same("vacuum", w.s.Vacuum(), w.o.vacuum(), 0, 0)
	case kind == 20:
		w.crash()
	default:
		w.feed(kind)
	}
}

// feed does one step of the queue's.
func (w *walk) feed(kind int) {
	w.t.Helper()
	name := w.name()
	switch {
	case kind < 24:
		now := w.now - int64(w.r.Intn(20)/19)
		x, a := w.s.Tick(now)
		y, b := w.o.tick(now)
		w.same(fmt.Sprint("tick ", now), x, y, a, b)
	case kind < 26:
		w.same("+"+name, 0, 0, w.s.Register(name), w.o.comes(name))
	case kind == 26:
		if w.r.Intn(4) == 0 {
			w.same("-"+name, 0, 0, w.s.Unregister(name), w.o.goes(name))
		}
	case kind < 29:
		x, a := w.s.Next(name)
		y, b := w.o.opens(name)
		w.same(">"+name, x, y, a, b)
	case kind < 30:
		x, a := w.s.Batch(name)
		y, b := w.o.batch(name)
		w.same("="+name, x, y, a, b)
	case kind < 32:
		w.retry()
	case kind < 34:
		n, a := w.s.Finish(name)
		m, b := w.o.finishes(name)
		w.same("<"+name, n, m, a, b)
	case kind < 36:
		n, a := w.s.Maint(w.now)
		m, b := w.o.maint(w.now)
		w.same(fmt.Sprint("maint ", w.now), n, m, a, b)
	case kind < 39:
		n, a := w.s.Rotate()
		m, b := w.o.rotate()
		w.same("o", n, m, a, b)
	default:
		n, a := w.s.Trim()
		m, b := w.o.trim()
		w.same("k", n, m, a, b)
	}
}

// Many scripts at random, with crashes between, held against what the chapter says behind each step.
func TestWalks(t *testing.T) {
	refused := map[api.Errno]int{}
	found, lost := 0, 0
	for seed := range int64(60) {
		w := newWalk(t, seed, 60+int(seed)*8, 1+int(seed)%4, int(seed/4)%5)
		w.o.traced = min(w.o.traced, w.o.tables)
		for range 150 {
			w.any(6)
			w.whole()
		}
		for e, n := range w.refused {
			refused[e] += n
		}
		found += w.found
		lost += w.lost
	}
	for _, e := range []api.Errno{api.OK, api.ErrArg, api.ErrNone, api.ErrDup, api.ErrConflict, api.ErrState, api.ErrFull, api.ErrWait} {
		if refused[e] < 10 {
			t.Error(e, "was told", refused[e], "times")
		}
	}
	if found < 10 || lost < 10 {
		t.Error("staged:", found, "were there,", lost, "weren't")
	}
}

// Long ones, up to where the log has no room.
func TestLongWalks(t *testing.T) {
	for seed := range int64(6) {
		w := newWalk(t, 100+seed, 500, 3, 2)
		for n := range 2500 {
			w.any(6)
			if n%100 == 0 {
				w.whole()
			}
		}
		w.crash()
	}
}
