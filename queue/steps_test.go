package queue_test

import (
	"math/rand"
	"slices"
	"strings"
	"testing"

	"carrier/api"
	"carrier/queue"
	"carrier/txn"
)

// twin is a queue, its manager, and their model: each call is made of both, and both must tell the same.
type twin struct {
	t    *testing.T
	m    *txn.Manager
	q    *queue.Queue
	o    *model
	told map[string]map[int]int // how often each call told each error, or number
	did  []string
	mode int // what is done seldom, so that others come as far as may be: 1: Trim, 2: Maint
}

func newTwin(t *testing.T) *twin {
	m := txn.New()
	return &twin{t: t, m: m, q: queue.New(m), o: &model{id: 1}, told: map[string]map[int]int{}}
}

// check counts an answer, and tells a fault if it isn't the same, or if the queue tells anything else of itself than its model.
func (w *twin) check(call string, n int, same bool) {
	w.t.Helper()
	if w.told[call] == nil {
		w.told[call] = map[int]int{}
	}
	w.told[call][n]++
	w.did = append(w.did, call)
	if !same {
		w.t.Fatalf("%s: %s", strings.Join(w.did, " "), call)
	}
	if got, want := tell(w.q), w.o.tell(); !got.same(want) {
		w.t.Fatalf("%s: %s, not %s", strings.Join(w.did, " "), short(got), short(want))
	}
}

func (w *twin) begin() {
	w.t.Helper()
	if x, e := w.m.Begin(); e == api.OK {
		w.o.states = append(w.o.states, 'o')
		w.check("begin", 0, x == int64(len(w.o.states)))
	}
}

// end commits, or aborts, a transaction that is open.
func (w *twin) end(x int64, how byte) {
	w.t.Helper()
	if w.o.state(x) != 'o' {
		return
	}
	w.o.states[x-1] = how
	e := api.OK
	if how == 'c' {
		e = w.m.Commit(x)
	} else {
		e = w.m.Abort(x)
	}
	w.check("end", int(how), e == api.OK)
}

// load lets the manager know just those that are committed now: all others are aborted.
func (w *twin) load() {
	w.t.Helper()
	var committed []int64
	for i, state := range w.o.states {
		if state == 'c' {
			committed = append(committed, int64(i)+1)
		} else {
			w.o.states[i] = 'a'
		}
	}
	e := w.m.Load(int64(len(w.o.states))+1, committed)
	w.check("load", 0, e == api.OK)
}

func (w *twin) write(x int64, table int, kind byte, r api.Row) {
	w.t.Helper()
	want := w.o.write(x, table, kind, r)
	w.check("Write", 0, w.q.Write(x, table, kind, r) == want)
}

func (w *twin) setNextID(id int64) {
	w.t.Helper()
	w.o.id = id
	w.q.SetNextID(id)
	w.check("SetNextID", 0, true)
}

func (w *twin) forget(x int64) {
	w.t.Helper()
	want := w.o.forget(x)
	w.check("Forget", want, w.q.Forget(x) == want)
}

func (w *twin) tick(now int64) {
	w.t.Helper()
	want, e := w.o.tick(now)
	got, f := w.q.Tick(now)
	w.check("Tick", int(e), e == f && sameTick(got, want))
}

func (w *twin) register(name string) {
	w.t.Helper()
	want := w.o.register(name)
	w.check("Register", int(want), w.q.Register(name) == want)
}

func (w *twin) unregister(name string) {
	w.t.Helper()
	want := w.o.unregister(name)
	w.check("Unregister", int(want), w.q.Unregister(name) == want)
}

func (w *twin) next(name string) {
	w.t.Helper()
	want, e := w.o.next(name)
	got, f := w.q.Next(name)
	w.check("Next", int(e), e == f && sameTick(got, want))
}

func (w *twin) batch(name string) {
	w.t.Helper()
	want, e := w.o.batch(name)
	got, f := w.q.Batch(name)
	w.check("Batch", int(e), e == f && slices.Equal(got, want))
}

func (w *twin) finish(name string) {
	w.t.Helper()
	want, e := w.o.finish(name)
	got, f := w.q.Finish(name)
	w.check("Finish", int(e), e == f && got == want)
}

func (w *twin) retry(name string, id, when int64) {
	w.t.Helper()
	want := w.o.retry(name, id, when)
	w.check("Retry", int(want), w.q.Retry(name, id, when) == want)
}

func (w *twin) maint(x, now int64) {
	w.t.Helper()
	want := w.o.maint(x, now)
	w.check("Maint", len(want), slices.Equal(w.q.Maint(x, now), want))
}

func (w *twin) rotate() {
	w.t.Helper()
	want, e := w.o.rotate()
	got, f := w.q.Rotate()
	w.check("Rotate", int(want), e == f && got == want)
}

func (w *twin) trim() {
	w.t.Helper()
	want := w.o.trim()
	w.check("Trim", want, w.q.Trim() == want)
}

// bytes are read one by one; behind the last one noughts.
type bytes []byte

func (p *bytes) read() int {
	if len(*p) == 0 {
		return 0
	}
	b := (*p)[0]
	*p = (*p)[1:]
	return int(b)
}

// name is mostly one of few, and sometimes one that can't be.
func (p *bytes) name() string {
	b := p.read()
	if b >= 248 {
		return misnomers()[b%len(misnomers())]
	}
	return []string{"a", "b", "ab", api.Replica, "\xff"}[b%5]
}

// consumer is mostly the name of one that is there, and sometimes any.
func (p *bytes) consumer(o *model) string {
	b := p.read()
	if b < 208 && len(o.names) > 0 {
		return o.names[b%len(o.names)].Name
	}
	return p.name()
}

// open is mostly a transaction that is open, and sometimes any number.
func (p *bytes) open(o *model) int64 {
	b := p.read()
	if s := o.now(); b < 224 && len(s.Open) > 0 {
		return s.Open[b%len(s.Open)]
	} else if b < 248 {
		return 1 + int64(b%int(s.Max+1))
	}
	return []int64{deep, -1, 0, 1 << 32, far}[b%5]
}

// told is mostly one of the IDs that a consumer's batch has, and sometimes any.
func (p *bytes) told(o *model, name string) int64 {
	b := p.read()
	if l, _ := o.batch(name); b < 224 && len(l) > 0 {
		return l[b%len(l)].ID
	}
	return int64(b%16) - 2
}

// crowded is how many events stand there when no more of them are written: the model goes through all of them very often.
const crowded = 40

// step does what the next bytes say.
func (w *twin) step(p *bytes, now int64) {
	w.t.Helper()
	b := p.read()
	switch kind := b % 64; {
	case kind < 6:
		w.begin()
	case kind < 16 && w.q.Spools().Len() < crowded:
		w.write(p.open(w.o), p.read()%5, byte(p.read()%6), api.Row{Key: int64(p.read()) - 128, Text: p.name()})
	case kind < 19:
		w.end(p.open(w.o), 'c')
	case kind < 20:
		x := p.open(w.o)
		w.end(x, 'a')
		w.forget(x)
	case kind < 21:
		w.end(p.open(w.o), 'a')
	case kind < 26:
		w.tick(now - int64(p.read()/224)*8)
	case kind < 29:
		w.register(p.name())
	case kind < 30 && b < 128:
		w.unregister(p.consumer(w.o))
	case kind < 38:
		w.next(p.consumer(w.o))
	case kind < 40:
		w.batch(p.consumer(w.o))
	case kind < 45 && w.mode != 2 || kind < 41:
		w.finish(p.consumer(w.o))
	case kind < 52:
		name := p.consumer(w.o)
		w.retry(name, p.told(w.o, name), now+int64(p.read()%16)-1)
	case kind < 54 && w.mode != 2:
		w.maint(p.open(w.o), now)
	case kind < 61:
		w.rotate()
	case kind < 63 && w.mode != 1:
		w.trim()
	default:
		w.rarely(p)
	}
}

// rarely does what isn't done often.
func (w *twin) rarely(p *bytes) {
	w.t.Helper()
	switch b := p.read(); {
	case b < 16:
		w.load()
	case b < 32:
		w.setNextID(int64(b) % 16)
	case b < 38:
		w.setNextID([6]int64{deep, -1, 1 << 32, far - 1, far, far}[b-32])
	case b < 64:
		w.maint(p.open(w.o), far)
	case b < 96:
		w.forget(p.open(w.o))
	}
}

// steps does all that some bytes say.
func steps(t *testing.T, todo []byte) *twin {
	t.Helper()
	w := newTwin(t)
	p := (*bytes)(&todo)
	w.mode = p.read() % 3
	for now := int64(0); len(*p) > 0; now++ {
		w.step(p, now/4)
	}
	return w
}

// mixed is n bytes of all kinds.
func mixed(seed int64, n int) []byte {
	p := make([]byte, n)
	rand.New(rand.NewSource(seed)).Read(p)
	return p
}

func TestManySteps(t *testing.T) {
	all := map[string]map[int]int{}
	for seed := range int64(150) {
		w := steps(t, mixed(seed, 2500))
		for call, answers := range w.told {
			if all[call] == nil {
				all[call] = map[int]int{}
			}
			for n, times := range answers {
				all[call][n] += times
			}
		}
	}
	for call, answers := range map[string][]int{
		"Tick":       {int(api.OK), int(api.ErrArg), int(api.ErrFull)},
		"Register":   {int(api.OK), int(api.ErrWait), int(api.ErrArg), int(api.ErrDup), int(api.ErrFull)},
		"Unregister": {int(api.OK), int(api.ErrNone)},
		"Next":       {int(api.OK), int(api.ErrNone), int(api.ErrState), int(api.ErrWait)},
		"Batch":      {int(api.OK), int(api.ErrNone), int(api.ErrState)},
		"Finish":     {int(api.OK), int(api.ErrNone), int(api.ErrState)},
		"Retry":      {int(api.OK), int(api.ErrNone), int(api.ErrState), int(api.ErrDup), int(api.ErrFull)},
		"Maint":      {0, 1, 2, 3},
		"Forget":     {0, 1, 2, 3},
		"Rotate":     {0, 1, 2},
		"Trim":       {0, 1, 2, 3},
	} {
		for _, n := range answers {
			if all[call][n] < 20 {
				t.Error(call, n, all[call])
			}
		}
	}
}

func FuzzSteps(f *testing.F) {
	f.Add(mixed(1, 60))
	f.Add(mixed(2, 400))
	f.Fuzz(func(t *testing.T, todo []byte) { steps(t, todo) })
}

// few are steps of each kind, where a is a consumer already.
func few() []func(w *twin) {
	return []func(w *twin){
		func(w *twin) { w.begin(); w.write(w.o.now().Max-1, 1, api.Insert, row(1)) },
		func(w *twin) { w.end(1, 'c') },
		func(w *twin) { w.end(2, 'c') },
		func(w *twin) { w.tick(0) },
		func(w *twin) { w.next("a") },
		func(w *twin) { w.finish("a") },
		func(w *twin) { w.retry("a", 1, 1) },
		func(w *twin) { w.maint(2, 1) },
		func(w *twin) { w.rotate() },
		func(w *twin) { w.trim() },
	}
}

// All lists of few steps that there are, behind one that has a batch to tell.
func TestFewSteps(t *testing.T) {
	const length = 4
	kinds := few()
	count := 1
	for range length {
		count *= len(kinds)
	}
	for n := range count {
		w := newTwin(t)
		w.tick(0)
		w.register("a")
		kinds[0](w)
		kinds[1](w)
		kinds[3](w)
		for range length {
			kinds[n%len(kinds)](w)
			n /= len(kinds)
		}
	}
}
