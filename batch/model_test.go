package batch_test

import (
	"math/rand"
	"slices"
	"strings"
	"testing"

	"carrier/api"
	"carrier/batch"
	"carrier/txn"
)

// model is what there is as the chapter words it: what became of each transaction, a letter each, events, snapshots.
type model struct {
	letters string
	l       []api.Event
	s       []api.Snapshot
}

// of are the places of the events that Of tells: the least ID again and again, and of like ones the first one.
func (o model) of(from, to api.Snapshot, owner string) []int {
	var left, places []int
	for i, e := range o.l {
		due := e.Owner == "" || e.Owner == owner
		if due && letter(o.letters, e.Tx) == 'c' && saw(to, e.Tx) && !saw(from, e.Tx) {
			left = append(left, i)
		}
	}
	for len(left) > 0 {
		least := 0
		for k, i := range left {
			if o.l[i].ID < o.l[left[least]].ID {
				least = k
			}
		}
		places = append(places, left[least])
		left = slices.Delete(left, least, least+1)
	}
	return places
}

func (o model) needs(e api.Event) bool {
	switch letter(o.letters, e.Tx) {
	case 'o':
		return true
	case 'c':
		for _, s := range o.s {
			if !saw(s, e.Tx) {
				return true
			}
		}
	}
	return false
}

func (o model) free() bool {
	for _, e := range o.l {
		if o.needs(e) {
			return false
		}
	}
	return true
}

// bytes are read one by one; behind the last one noughts.
type bytes []byte

func (p *bytes) read() int {
	if len(*p) == 0 {
		return 0
	}
	b := (*p)[0]
	*p = (*p)[1:]
	return int(b)
}

// states are letters of transactions, so few of them open that one more may begin.
func (p *bytes) states() string {
	var letters []byte
	for range p.read() % 20 {
		is := "cccao"[p.read()%5]
		if is == 'o' && strings.Count(string(letters), "o") == api.MaxOpen-1 {
			is = 'c'
		}
		letters = append(letters, is)
	}
	return string(letters)
}

// name is mostly a transaction's number, and sometimes one that is far away.
func (p *bytes) name(letters string) int64 {
	n := p.read()
	if n >= 244 {
		return []int64{deep, deep + 1, -1 << 32, 1<<32 + 1, -1, 0, 0, int64(len(letters)) + 1, 40, api.MaxTxid, far - 1, far}[n-244]
	}
	return 1 + int64(n%max(1, len(letters)))
}

// event is one with one of few IDs, and the n-th: so like ones are told apart.
func (p *bytes) event(letters string, n int) api.Event {
	e := api.Event{ID: int64(p.read()%8) - 2, Tx: p.name(letters), Owner: p.owner(), Tries: n, Kind: api.Insert}
	if p.read()%16 == 0 {
		all := anyEvents()
		e = all[p.read()*3%len(all)]
	}
	return e
}

func (p *bytes) owner() string {
	return []string{"", "", "", "a", "a", "b", api.Replica, "\x00"}[p.read()%8]
}

// snapshot is mostly one that is Right and sees many; now and then any.
func (p *bytes) snapshot(letters string) api.Snapshot {
	how := p.read() % 16
	if how == 15 {
		all := anyone()
		return all[p.read()*3%len(all)]
	}
	s := at(1 + int64(p.read()%(len(letters)+2)))
	if how < 8 {
		s.Max = int64(len(letters)) + 1
	}
	for x := int64(1); x < s.Max; x++ {
		if p.read()%4 == 0 {
			s.Open = append(s.Open, x)
		}
	}
	return s
}

// count is how often each of the answers was told.
type count struct {
	told, none, like      int
	need, needless        int
	free, wanted, nothing int
}

// steps reads what there is, and holds all calls of it against the model.
func steps(t *testing.T, todo []byte, told *count) {
	p := (*bytes)(&todo)
	for len(*p) > 0 {
		o := model{letters: p.states()}
		m := made(t, o.letters)
		for n := range p.read() % 12 {
			o.l = append(o.l, p.event(o.letters, n))
		}
		for range p.read() % 5 {
			o.s = append(o.s, p.snapshot(o.letters))
		}
		o.asked(t, m, p, told)
	}
}

func (o model) asked(t *testing.T, m *txn.Manager, p *bytes, told *count) {
	t.Helper()
	for range 4 {
		from, to, owner := p.snapshot(o.letters), p.snapshot(o.letters), p.owner()
		places := o.of(from, to, owner)
		question{m, from, to, owner}.tells(t, o.l, places...)
		told.counts(o.l, places)
	}
	for _, e := range o.l {
		want := o.needs(e)
		needs(t, e, m, o.s, want)
		tally(want, &told.need, &told.needless)
	}
	free := o.free()
	frees(t, o.l, m, o.s, free)
	tally(free, &told.free, &told.wanted)
	if free {
		o.unwanted(t, m, p)
	}
}

// unwanted tells a fault if one of them who go on is told an event that nobody wanted any more.
func (o model) unwanted(t *testing.T, m *txn.Manager, p *bytes) {
	t.Helper()
	for _, from := range o.s {
		for range 3 {
			if got := batch.Of(o.l, m, from, p.snapshot(o.letters), p.owner()); len(got) > 0 {
				t.Fatal(o.letters, from, short(got))
			}
		}
	}
}

func (c *count) counts(l []api.Event, places []int) {
	tally(len(places) > 0, &c.told, &c.none)
	for i := range len(places) - 1 {
		if l[places[i]].ID == l[places[i+1]].ID {
			c.like++
		}
	}
	if len(l) == 0 {
		c.nothing++
	}
}

func tally(is bool, yes, no *int) {
	if is {
		*yes++
	} else {
		*no++
	}
}

// mixed is n bytes of all kinds.
func mixed(seed int64, n int) []byte {
	p := make([]byte, n)
	rand.New(rand.NewSource(seed)).Read(p)
	return p
}

func TestManyCalls(t *testing.T) {
	told := &count{}
	for seed := range int64(300) {
		steps(t, mixed(seed, 6000), told)
	}
	for i, n := range []int{told.told, told.none, told.like, told.need, told.needless, told.free, told.wanted, told.nothing} {
		if n < 500 {
			t.Error(i, n)
		}
	}
}

func FuzzSteps(f *testing.F) {
	f.Add(mixed(1, 60))
	f.Add([]byte{3, 0, 3, 4, 3, 1, 0, 0, 1, 2, 1, 0, 1, 2, 2, 0, 0, 9, 9})
	f.Fuzz(func(t *testing.T, todo []byte) { steps(t, todo, &count{}) })
}

// One consumer goes on from tick to tick while transactions begin and end: each event of those that were committed
// is told to it just once, in the batches that it finishes, and none that it still wants is ever free.
func TestManyTicks(t *testing.T) {
	for seed := range int64(200) {
		r := rand.New(rand.NewSource(seed))
		m := txn.New()
		var l, told []api.Event
		last := m.Now()
		for id := int64(1); id <= 60; id++ {
			if r.Intn(3) == 0 {
				m.Begin()
			}
			if open := m.Now().Open; len(open) > 0 {
				x := open[r.Intn(len(open))]
				l = append(l, api.Event{ID: id, Tx: x})
				switch r.Intn(6) {
				case 0:
					m.Commit(x)
				case 1:
					m.Abort(x)
				}
			}
			if r.Intn(8) == 0 {
				told, last = goOn(t, m, l, told, last)
			}
		}
		for _, x := range m.Now().Open {
			m.Commit(x)
		}
		told, last = goOn(t, m, l, told, last)
		frees(t, l, m, []api.Snapshot{last}, true)
		slices.SortFunc(told, byID)
		alike(t, told, slices.DeleteFunc(slices.Clone(l), func(e api.Event) bool { return m.State(e.Tx) != txn.Committed }))
	}
}

// goOn is what one was told up to now who went on from a snapshot, and the snapshot of now.
func goOn(t *testing.T, m *txn.Manager, l, told []api.Event, last api.Snapshot) ([]api.Event, api.Snapshot) {
	t.Helper()
	now := m.Now()
	next := batch.Of(l, m, last, now, "a")
	for _, e := range next {
		needs(t, e, m, []api.Snapshot{now, last}, true)
		needs(t, e, m, []api.Snapshot{now}, false)
	}
	return append(told, next...), now
}
