package retry_test

import (
	"math/rand"
	"slices"
	"testing"

	"carrier/api"
	"carrier/retry"
)

// model is items as the chapter words them, in the order in which they came; those that are gone stay, and wait no more.
type model struct {
	came []retry.Item
	gone []bool
}

// waits are the items that aren't gone, in order.
func (o *model) waits() []retry.Item {
	var l []retry.Item
	for i, x := range o.came {
		if !o.gone[i] {
			l = append(l, x)
		}
	}
	return rising(l)
}

func (o *model) add(e api.Event, owner string, at int64) api.Errno {
	if len(owner) == 0 {
		return api.ErrArg
	}
	l := o.waits()
	for _, x := range l {
		if x.Event.ID == e.ID && x.Event.Owner == owner {
			return api.ErrDup
		}
	}
	if len(l) == 16 {
		return api.ErrFull
	}
	e.Owner = owner
	if e.Tries != largest {
		e.Tries++
	}
	o.came, o.gone = append(o.came, retry.Item{At: at, Event: e}), append(o.gone, false)
	return api.OK
}

func (o *model) take(now int64) []retry.Item {
	l := until(o.waits(), now)
	for i, x := range o.came {
		if x.At <= now {
			o.gone[i] = true
		}
	}
	return l
}

func (o *model) drop(owner string) int {
	n := 0
	for i, x := range o.came {
		if !o.gone[i] && x.Event.Owner == owner {
			o.gone[i] = true
			n++
		}
	}
	return n
}

// bytes are read one by one; behind the last one noughts.
type bytes []byte

func (p *bytes) read() int {
	if len(*p) == 0 {
		return 0
	}
	b := (*p)[0]
	*p = (*p)[1:]
	return int(b)
}

// owner is mostly one of few, and sometimes any, or none.
func (p *bytes) owner() string {
	b := p.read()
	switch {
	case b >= 248:
		return ""
	case b >= 232:
		return owners()[p.read()%len(owners())]
	}
	return []string{"a", "b", "ab", api.Replica, "B", "\xff"}[b%6]
}

// near is mostly a number near to another one, and sometimes one that is far away.
func (p *bytes) near(n int64) int64 {
	b := int64(p.read())
	if b >= 248 {
		return [8]int64{deep, deep + 1, -1 << 32, 1 << 32, 0, -1, far - 1, far}[b-248]
	}
	return n - 6 + b%12
}

// event is one of few IDs, mostly, and of any other fields.
func (p *bytes) event() api.Event {
	e := api.Event{ID: p.near(4), Tx: p.near(0), Owner: p.owner(), Tries: p.read() % 5, Table: p.read() % 6, Kind: byte(p.read()), Row: api.Row{Key: p.near(0), Text: p.owner()}}
	if p.read()%8 == 0 {
		e.Tries = largest - p.read()%3
	}
	return e
}

// told is how often each error, or number, was told by each call.
type told map[string]map[int]int

func (l told) count(call string, n int) {
	if l[call] == nil {
		l[call] = map[int]int{}
	}
	l[call][n]++
}

// step does to retries, and to their model, what the next bytes say.
func step(t *testing.T, r *retry.Retries, o *model, p *bytes, l told) {
	t.Helper()
	switch kind := p.read() % 32; {
	case kind < 26:
		e, owner, at := p.event(), p.owner(), p.near(0)
		if was := o.waits(); kind < 3 && len(was) > 0 { // one that waits comes again
			e = was[p.read()%len(was)].Event
			owner = e.Owner
		}
		want := o.add(e, owner, at)
		adds(t, r, e, owner, at, want)
		l.count("Add", int(want))
	case kind < 27:
		now := p.near(-2)
		want := o.take(now)
		takes(t, r, now, want)
		l.count("Take", len(want))
	case kind < 28:
		owner := p.owner()
		want := o.drop(owner)
		drops(t, r, owner, want)
		l.count("Drop", want)
	default:
		now := p.near(0)
		want := until(o.waits(), now)
		if got := r.Due(now); !slices.Equal(got, events(want)) {
			t.Fatal(now, short(got), short(want))
		}
		l.count("Due", len(want))
	}
	if got, want := r.All(), o.waits(); !slices.Equal(got, want) {
		t.Fatal(short(got), short(want))
	}
}

// steps reads what is done to retries, and to their model.
func steps(t *testing.T, todo []byte, l told) {
	t.Helper()
	p := (*bytes)(&todo)
	r, o := retry.New(), &model{}
	for len(*p) > 0 {
		step(t, r, o, p, l)
	}
}

// mixed is n bytes of all kinds.
func mixed(seed int64, n int) []byte {
	p := make([]byte, n)
	rand.New(rand.NewSource(seed)).Read(p)
	return p
}

func TestManySteps(t *testing.T) {
	l := told{}
	for seed := range int64(200) {
		steps(t, mixed(seed, 1500), l)
	}
	for call, answers := range map[string][]int{
		"Add":  {int(api.OK), int(api.ErrArg), int(api.ErrDup), int(api.ErrFull)},
		"Take": {0, 1, 2, 3, 8},
		"Drop": {0, 1, 2, 3},
		"Due":  {0, 1, 2, 3, 8, 16},
	} {
		for _, n := range answers {
			if l[call][n] < 20 {
				t.Error(call, n, l[call])
			}
		}
		if call == "Add" && len(l[call]) != len(answers) {
			t.Error(call, l[call])
		}
	}
}

func FuzzSteps(f *testing.F) {
	f.Add(mixed(1, 60))
	f.Add(mixed(2, 400))
	f.Fuzz(func(t *testing.T, todo []byte) { steps(t, todo, told{}) })
}

// few are steps of each kind: each is done to retries, and to their model.
func few(t *testing.T) []func(r *retry.Retries, o *model) {
	var l []func(r *retry.Retries, o *model)
	for _, owner := range []string{"a", "b"} {
		for _, x := range []retry.Item{item(1, 2, owner), item(2, 1, owner), item(2, 2, owner)} {
			l = append(l, func(r *retry.Retries, o *model) {
				adds(t, r, x.Event, owner, x.At, o.add(x.Event, owner, x.At))
			})
		}
		l = append(l, func(r *retry.Retries, o *model) { drops(t, r, owner, o.drop(owner)) })
	}
	for now := range int64(3) {
		l = append(l, func(r *retry.Retries, o *model) { takes(t, r, now, o.take(now)) })
	}
	return l
}

// All lists of few steps that there are.
func TestFewSteps(t *testing.T) {
	const length = 5
	kinds := few(t)
	count := 1
	for range length {
		count *= len(kinds)
	}
	for n := range count {
		r, o := retry.New(), &model{}
		for range length {
			kinds[n%len(kinds)](r, o)
			n /= len(kinds)
		}
		has(t, r, o.waits())
	}
}
