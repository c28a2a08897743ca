package spool_test

import (
	"math/rand"
	"testing"

	"carrier/api"
	"carrier/spool"
)

// model is spools as the chapter words them: all events in the order in which they came, each with its table.
type model struct {
	cur  int
	came []place
}

type place struct {
	table int
	event api.Event
}

// drop lets all go that are so: how many.
func (o *model) drop(so func(p place) bool) int {
	var left []place
	for _, p := range o.came {
		if !so(p) {
			left = append(left, p)
		}
	}
	n := len(o.came) - len(left)
	o.came = left
	return n
}

func (o *model) forget(x int64) int {
	return o.drop(func(p place) bool { return p.event.Tx == x })
}

func (o *model) rotate(free bool) (byte, api.Errno) {
	next := behind(o.cur)
	if len(o.state().tables[next]) == 0 {
		o.cur = next
		return 2, api.OK
	}
	if !free {
		return 0, api.ErrWait
	}
	o.drop(func(p place) bool { return p.table == next })
	return 1, api.OK
}

func (o *model) addTo(i int, e api.Event) api.Errno {
	if i != 0 && i != 1 && i != 2 {
		return api.ErrArg
	}
	o.came = append(o.came, place{i, e})
	return api.OK
}

func (o *model) state() state {
	is := state{cur: o.cur}
	for _, p := range o.came {
		is.tables[p.table] = append(is.tables[p.table], p.event)
	}
	return is
}

// bytes are read one by one; behind the last one noughts.
type bytes []byte

func (p *bytes) read() int {
	if len(*p) == 0 {
		return 0
	}
	b := (*p)[0]
	*p = (*p)[1:]
	return int(b)
}

// number is one that is often like another one, and sometimes far away.
func (p *bytes) number() int64 {
	n := int64(p.read())
	switch {
	case n >= 250:
		return [6]int64{deep, deep + 1, -1 << 32, 1 << 32, far - 1, far}[n-250]
	case n >= 128:
		return n - 140
	}
	return n % 6
}

// event is one of few IDs and transactions, the n-th.
func (p *bytes) event(n int) api.Event {
	e := api.Event{ID: p.number(), Tx: p.number(), Tries: n}
	if p.read()%8 == 0 {
		all := anyEvents()
		e = all[p.read()*3%len(all)]
	}
	return e
}

// table is mostly one that there is.
func (p *bytes) table() int {
	i := p.read()
	if i >= 240 {
		l := elsewhere()
		return l[p.read()%len(l)]
	}
	return i % 3
}

// steps reads what is done to spools, and to their model.
func steps(t *testing.T, todo []byte) {
	p := (*bytes)(&todo)
	s, o := spool.New(), &model{}
	for n := 0; len(*p) > 0; n++ {
		switch kind := p.read() % 16; {
		case kind < 5:
			e := p.event(n)
			s.Add(e)
			o.addTo(o.cur, e)
		case kind < 9:
			i, e := p.table(), p.event(n)
			if err, want := s.AddTo(i, e), o.addTo(i, e); err != want {
				t.Fatalf("AddTo %d: %d, not %d", i, err, want)
			}
		case kind < 12:
			want, wantErr := o.rotate(false)
			rotates(t, s, false, want, wantErr)
		case kind < 14:
			want, wantErr := o.rotate(true)
			rotates(t, s, true, want, wantErr)
		default:
			x := p.number()
			forgets(t, s, x, o.forget(x))
		}
		has(t, s, o.state())
	}
}

// mixed is n bytes of all kinds.
func mixed(seed int64, n int) []byte {
	p := make([]byte, n)
	rand.New(rand.NewSource(seed)).Read(p)
	return p
}

func TestManySteps(t *testing.T) {
	for seed := range int64(300) {
		steps(t, mixed(seed, 800))
	}
}

// Without a Forget, or a Rotate that empties, there are more and more.
func TestManyStepsThatKeepMore(t *testing.T) {
	for seed := range int64(20) {
		p := mixed(seed, 1500)
		for i := range p {
			if p[i]%16 >= 12 {
				p[i] -= 12
			}
		}
		steps(t, p)
	}
}

func FuzzSteps(f *testing.F) {
	f.Add(mixed(1, 60))
	f.Add([]byte{0, 5, 1, 1, 9, 0, 0, 6, 1, 1, 9, 9, 12, 14, 1})
	f.Fuzz(steps)
}

// few are steps of each kind: each is done to spools, and to their model.
func few(t *testing.T) []func(s *spool.Spools, o *model) {
	var l []func(s *spool.Spools, o *model)
	for _, e := range evs("a2 b1") {
		l = append(l, func(s *spool.Spools, o *model) {
			s.Add(e)
			o.addTo(o.cur, e)
		})
	}
	for i := range 3 {
		l = append(l, func(s *spool.Spools, o *model) {
			s.AddTo(i, ev("a1"))
			o.addTo(i, ev("a1"))
		})
	}
	for _, free := range []bool{false, true} {
		l = append(l, func(s *spool.Spools, o *model) {
			want, wantErr := o.rotate(free)
			rotates(t, s, free, want, wantErr)
		})
	}
	return append(l, func(s *spool.Spools, o *model) { forgets(t, s, 1, o.forget(1)) })
}

// All lists of few steps that there are.
func TestFewSteps(t *testing.T) {
	const length = 5
	kinds := few(t)
	count := 1
	for range length {
		count *= len(kinds)
	}
	for n := range count {
		s, o := spool.New(), &model{}
		for range length {
			kinds[n%len(kinds)](s, o)
			n /= len(kinds)
		}
		has(t, s, o.state())
	}
}
