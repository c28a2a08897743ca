package cursor_test

import (
	"math/rand"
	"testing"

	"carrier/api"
	"carrier/cursor"
)

// model is consumers as the chapter words them, in the order in which they came; those that are gone stay, with no name.
type model struct {
	came []cursor.Cursor
}

// there are those that aren't gone.
func (o *model) there() []cursor.Cursor {
	var l []cursor.Cursor
	for _, x := range o.came {
		if x.Name != "" {
			l = append(l, x)
		}
	}
	return l
}

// of is the consumer of a name; nil, if there isn't one.
func (o *model) of(name string) *cursor.Cursor {
	if i := with(o.came, name); i >= 0 && name != "" {
		return &o.came[i]
	}
	return nil
}

func (o *model) register(name string, at int64) api.Errno {
	if len(name) == 0 || len(name) > 40 || at <= 0 {
		return api.ErrArg
	}
	if o.of(name) != nil {
		return api.ErrDup
	}
	if len(o.there()) == 4 {
		return api.ErrFull
	}
	o.came = append(o.came, cursor.Cursor{Name: name, Last: at})
	return api.OK
}

func (o *model) unregister(name string) api.Errno {
	x := o.of(name)
	if x == nil {
		return api.ErrNone
	}
	*x = cursor.Cursor{}
	return api.OK
}

func (o *model) open(name string, next int64) api.Errno {
	x := o.of(name)
	if x == nil {
		return api.ErrNone
	}
	if x.Open > 0 {
		return api.ErrState
	}
	if next <= x.Last {
		return api.ErrArg
	}
	x.Open = next
	return api.OK
}

func (o *model) finish(name string) (int64, api.Errno) {
	x := o.of(name)
	if x == nil {
		return 0, api.ErrNone
	}
	if x.Open == 0 {
		return 0, api.ErrState
	}
	x.Last, x.Open = x.Open, 0
	return x.Last, api.OK
}

// bytes are read one by one; behind the last one noughts.
type bytes []byte

func (p *bytes) read() int {
	if len(*p) == 0 {
		return 0
	}
	b := (*p)[0]
	*p = (*p)[1:]
	return int(b)
}

// name is mostly one of few, and sometimes any.
func (p *bytes) name() string {
	b := p.read()
	switch {
	case b >= 250:
		return noNames()[p.read()%len(noNames())]
	case b >= 225:
		return names()[p.read()%len(names())]
	}
	return []string{"a", "b", "ab", api.Replica, "B", "\xff"}[b%6]
}

// near is mostly a number near to another one, and sometimes one that is far away.
func (p *bytes) near(n int64) int64 {
	switch b := int64(p.read()); {
	case b >= 248:
		return [8]int64{deep, deep + 1, -1 << 32, 1 << 32, 0, 1, far - 1, far}[b-248]
	case b >= 200:
		return n - (b-200)/8
	default:
		return n + b/40
	}
}

// last is the Last of a consumer.
func (o *model) last(name string) int64 {
	if x := o.of(name); x != nil {
		return x.Last
	}
	return 0
}

// told is how often each error was told by each call.
type told map[string]map[api.Errno]int

func (l told) count(call string, e api.Errno) {
	if l[call] == nil {
		l[call] = map[api.Errno]int{}
	}
	l[call][e]++
}

// step does to cursors, and to their model, what the next bytes say.
func step(t *testing.T, c *cursor.Cursors, o *model, p *bytes, l told) {
	t.Helper()
	kind, name := p.read()%16, p.name()
	switch {
	case kind < 5:
		at := p.near(3)
		want := o.register(name, at)
		registers(t, c, name, at, want)
		l.count("Register", want)
	case kind < 7:
		want := o.unregister(name)
		unregisters(t, c, name, want)
		l.count("Unregister", want)
	case kind < 12:
		next := p.near(o.last(name) + 1)
		want := o.open(name, next)
		opens(t, c, name, next, want)
		l.count("Open", want)
	default:
		want, wantErr := o.finish(name)
		finishes(t, c, name, want, wantErr)
		l.count("Finish", wantErr)
	}
	has(t, c, o.there())
}

// steps reads what is done to cursors, and to their model.
func steps(t *testing.T, todo []byte, l told) {
	t.Helper()
	p := (*bytes)(&todo)
	c, o := cursor.New(), &model{}
	for len(*p) > 0 {
		step(t, c, o, p, l)
	}
}

// mixed is n bytes of all kinds.
func mixed(seed int64, n int) []byte {
	p := make([]byte, n)
	rand.New(rand.NewSource(seed)).Read(p)
	return p
}

func TestManySteps(t *testing.T) {
	l := told{}
	for seed := range int64(500) {
		steps(t, mixed(seed, 1000), l)
	}
	for call, errors := range map[string][]api.Errno{
		"Register":   {api.OK, api.ErrArg, api.ErrDup, api.ErrFull},
		"Unregister": {api.OK, api.ErrNone},
		"Open":       {api.OK, api.ErrNone, api.ErrState, api.ErrArg},
		"Finish":     {api.OK, api.ErrNone, api.ErrState},
	} {
		for _, e := range errors {
			if l[call][e] < 1000 {
				t.Error(call, e, l[call])
			}
		}
		if len(l[call]) != len(errors) {
			t.Error(call, l[call])
		}
	}
}

func FuzzSteps(f *testing.F) {
	f.Add(mixed(1, 60))
	f.Add([]byte{0, 0, 0, 7, 0, 1, 12, 0, 5, 0})
	f.Fuzz(func(t *testing.T, todo []byte) { steps(t, todo, told{}) })
}

// few are steps of each kind: each is done to cursors, and to their model.
func few(t *testing.T) []func(c *cursor.Cursors, o *model) {
	var l []func(c *cursor.Cursors, o *model)
	for _, name := range []string{"a", "b"} {
		for _, n := range []int64{1, 2} {
			l = append(l, func(c *cursor.Cursors, o *model) { registers(t, c, name, n, o.register(name, n)) })
			l = append(l, func(c *cursor.Cursors, o *model) { opens(t, c, name, n+1, o.open(name, n+1)) })
		}
		l = append(l, func(c *cursor.Cursors, o *model) { unregisters(t, c, name, o.unregister(name)) })
		l = append(l, func(c *cursor.Cursors, o *model) {
			want, wantErr := o.finish(name)
			finishes(t, c, name, want, wantErr)
		})
	}
	return l
}

// All lists of few steps that there are.
func TestFewSteps(t *testing.T) {
	const length = 5
	kinds := few(t)
	count := 1
	for range length {
		count *= len(kinds)
	}
	for n := range count {
		c, o := cursor.New(), &model{}
		for range length {
			kinds[n%len(kinds)](c, o)
			n /= len(kinds)
		}
		has(t, c, o.there())
	}
}
