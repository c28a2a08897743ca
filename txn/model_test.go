package txn_test

import (
	"testing"

	"carrier/api"
	"carrier/snap"
	"carrier/txn"
)

// model is a manager as the chapter words it: the next number, and what has become of each one that isn't aborted.
type model struct {
	next   int64
	become map[int64]byte
}

func newModel() *model {
	return &model{next: 1, become: map[int64]byte{}}
}

func (o *model) open() []int64 {
	var l []int64
	for x := int64(1); x < o.next; x++ {
		if o.become[x] == txn.Open {
			l = append(l, x)
		}
	}
	return l
}

func (o *model) begin() (int64, api.Errno) {
	if len(o.open()) == 6 || o.next == 1<<20 {
		return 0, api.ErrFull
	}
	o.become[o.next] = txn.Open
	o.next++
	return o.next - 1, api.OK
}

func (o *model) end(x int64, as byte) api.Errno {
	if o.state(x) != txn.Open {
		return api.ErrState
	}
	o.become[x] = as
	return api.OK
}

func (o *model) state(x int64) byte {
	if x < 1 || x >= o.next {
		return txn.None
	}
	if o.become[x] == 0 {
		return txn.Aborted
	}
	return o.become[x]
}

func (o *model) load(next int64, committed []int64) api.Errno {
	if next < 1 || next > 1<<20 {
		return api.ErrArg
	}
	become := map[int64]byte{}
	for _, x := range committed {
		if x < 1 || x > next-1 {
			return api.ErrArg
		}
		become[x] = txn.Committed
	}
	o.next, o.become = next, become
	return api.OK
}

// steps reads from bytes what is done to a manager, and to its model: so many as there are.
func steps(t *testing.T, p []byte) {
	read := func() int64 {
		if len(p) == 0 {
			return 0
		}
		b := p[0]
		p = p[1:]
		return int64(b)
	}
	m, o := txn.New(), newModel()
	for len(p) > 0 {
		switch kind := read() % 16; {
		case kind < 7:
			x, e := m.Begin()
			if y, want := o.begin(); x != y || e != want {
				t.Fatalf("Begin: %d, %d, not %d, %d", x, e, y, want)
			}
		case kind < 11:
			x := o.next + 2 - read()%16
			if e, want := m.Commit(x), o.end(x, txn.Committed); e != want {
				t.Fatalf("Commit(%d): %d, not %d", x, e, want)
			}
		case kind < 15:
			x := o.next + 2 - read()%16
			if e, want := m.Abort(x), o.end(x, txn.Aborted); e != want {
				t.Fatalf("Abort(%d): %d, not %d", x, e, want)
			}
		default:
			next := read()%40 - 1
			committed := make([]int64, read()%6)
			for i := range committed {
				committed[i] = read()%(max(next, 0)+2) - read()%8/7
			}
			if e, want := m.Load(next, committed), o.load(next, committed); e != want {
				t.Fatalf("Load(%d, %v): %d, not %d", next, committed, e, want)
			}
		}
		alike(t, m, o)
	}
}

func alike(t *testing.T, m *txn.Manager, o *model) {
	t.Helper()
	if m.Next() != o.next {
		t.Fatalf("Next: %d, not %d", m.Next(), o.next)
	}
	want := api.Snapshot{Max: o.next, Open: o.open()}
	if now := m.Now(); !snap.Same(now, want) || !snap.Right(now) {
		t.Fatalf("Now: %v, not %v", now, want)
	}
	for x := int64(-1); x <= o.next+1; x++ {
		if m.State(x) != o.state(x) {
			t.Fatalf("State(%d): %d, not %d", x, m.State(x), o.state(x))
		}
	}
}

// mixed is n bytes of all kinds.
func mixed(seed uint32, n int) []byte {
	p := make([]byte, n)
	x := seed
	for i := range p {
		x = x*1664525 + 1013904223
		p[i] = byte(x >> 24)
	}
	return p
}

func TestManySteps(t *testing.T) {
	for seed := range uint32(400) {
		steps(t, mixed(seed, 600))
	}
}

// Without a Load numbers go on and on.
func TestManyStepsWithoutLoad(t *testing.T) {
	for seed := range uint32(20) {
		p := mixed(seed, 2000)
		for i := range p {
			if p[i]%16 == 15 {
				p[i]-- // so that no Load is told
			}
		}
		steps(t, p)
	}
}

func FuzzSteps(f *testing.F) {
	f.Add(mixed(1, 50))
	f.Add([]byte{0, 0, 7, 3, 15, 5, 2, 1, 0, 2, 0, 0, 11, 3})
	f.Fuzz(steps)
}

// Near the last number: what the chapter says, step by step, of just the numbers that may still change.
func TestManyStepsAtTheEnd(t *testing.T) {
	for seed := range uint32(40) {
		m, o := txn.New(), newModel()
		from := int64(api.MaxTxid) - 30
		m.Load(from, []int64{1, from - 1})
		o.load(from, []int64{1, from - 1})
		open := map[int64]bool{}
		for _, b := range mixed(seed, 300) {
			x := from - 2 + int64(b/3%34)
			switch b % 3 {
			case 0:
				wantX, want := o.next, api.OK
				if len(open) == api.MaxOpen || o.next == api.MaxTxid {
					wantX, want = 0, api.ErrFull
				}
				if got, e := m.Begin(); got != wantX || e != want {
					t.Fatal(got, e, wantX, want)
				}
				if want == api.OK {
					o.become[wantX], open[wantX] = txn.Open, true
					o.next++
				}
			case 1:
				if e, want := m.Commit(x), o.end(x, txn.Committed); e != want {
					t.Fatal(x, e, want)
				}
				delete(open, x)
			case 2:
				if e, want := m.Abort(x), o.end(x, txn.Aborted); e != want {
					t.Fatal(x, e, want)
				}
				delete(open, x)
			}
			if m.Next() != o.next || len(m.Now().Open) != len(open) || !snap.Right(m.Now()) {
				t.Fatal(m.Next(), o.next, m.Now(), open)
			}
			for x := from - 3; x <= api.MaxTxid+1; x++ {
				if m.State(x) != o.state(x) || (m.State(x) == txn.Open) != open[x] {
					t.Fatal(x, m.State(x), o.state(x))
				}
			}
		}
	}
}
