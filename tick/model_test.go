package tick_test

import (
	"math/rand"
	"slices"
	"testing"

	"carrier/api"
	"carrier/tick"
)

// model is ticks as the chapter words them: all that there ever were, and how many of them were let go.
type model struct {
	all  []api.Tick
	gone int
}

func (o *model) last() int64 {
	return int64(len(o.all))
}

func (o *model) kept() []api.Tick {
	return o.all[o.gone:]
}

// isRight goes by each number alone, and by each pair of neighbours.
func isRight(s api.Snapshot) bool {
	for i, x := range s.Open {
		if x < 1 || x > s.Max-1 || i > 0 && s.Open[i-1] >= x {
			return false
		}
	}
	return s.Max >= 1
}

// coversAll tells whether a sees all that b sees: of b's numbers but few can be such that a doesn't see.
func coversAll(a, b api.Snapshot) bool {
	if b.Max < 1000 {
		return seesAll(a, b)
	}
	unseen := slices.Clone(a.Open)
	for x := a.Max; x < b.Max; x++ {
		if len(unseen) > len(a.Open)+len(b.Open) {
			return false // not all of them are open in b
		}
		unseen = append(unseen, x)
	}
	return !slices.ContainsFunc(unseen, func(x int64) bool { return x < b.Max && !slices.Contains(b.Open, x) })
}

func (o *model) add(s api.Snapshot, at int64) (api.Tick, api.Errno) {
	kept := o.kept()
	if len(kept) == 64 {
		return api.Tick{}, api.ErrFull
	}
	if !isRight(s) {
		return api.Tick{}, api.ErrArg
	}
	if len(kept) > 0 {
		if last := kept[len(kept)-1]; at < last.At || !coversAll(s, last.Snap) {
			return api.Tick{}, api.ErrArg
		}
	}
	y := api.Tick{N: o.last() + 1, Snap: api.Snapshot{Max: s.Max, Open: slices.Clone(s.Open)}, At: at}
	o.all = append(o.all, y)
	return y, api.OK
}

func (o *model) put(y api.Tick) api.Errno {
	if y.N != o.last()+1 {
		return api.ErrArg
	}
	_, e := o.add(y.Snap, y.At)
	return e
}

func (o *model) trim(below int64) int {
	n := 0
	for o.last()-int64(o.gone) > 1 && o.all[o.gone].N < below {
		o.gone++
		n++
	}
	return n
}

// bytes are read one by one; behind the last one noughts.
type bytes []byte

func (p *bytes) read() int {
	if len(*p) == 0 {
		return 0
	}
	b := (*p)[0]
	*p = (*p)[1:]
	return int(b)
}

// near is mostly a number near to another one, and sometimes one that is far away.
func (p *bytes) near(n int64) int64 {
	switch b := int64(p.read()); {
	case b >= 248:
		return [8]int64{deep, deep + 1, -1 << 32, 1 << 32, 0, 1, far - 1, far}[b-248]
	case b >= 200:
		return n - (b-200)/4
	default:
		return n + b/64
	}
}

// snapshot is mostly one that sees what the last one sees, and a bit more; now and then any.
func (p *bytes) snapshot(last api.Snapshot) api.Snapshot {
	s := sees(max(last.Max, 1), last.Open...)
	how := p.read()
	if how%32 == 31 {
		return p.anySnapshot(s)
	}
	if s.Max < 1<<40 {
		for range how % 4 { // these begin
			s.Open = append(slices.Clone(s.Open), s.Max)
			s.Max++
		}
	}
	return api.Snapshot{Max: s.Max, Open: slices.DeleteFunc(slices.Clone(s.Open), func(int64) bool { return p.read()%2 == 0 })}
}

func (p *bytes) anySnapshot(last api.Snapshot) api.Snapshot {
	s := api.Snapshot{Max: p.near(last.Max)}
	for range p.read() % 8 {
		s.Open = append(s.Open, p.near(last.Max-3))
	}
	if p.read()%2 == 0 {
		slices.Sort(s.Open)
		s.Open = slices.Compact(s.Open)
	}
	return s
}

// steps reads what is done to ticks, and to their model, and counts the errors that were told.
func steps(t *testing.T, todo []byte, told map[api.Errno]int) {
	p := (*bytes)(&todo)
	x, o := tick.New(), &model{}
	for len(*p) > 0 {
		var last api.Tick
		if o.last() > 0 {
			last = o.all[o.last()-1]
		}
		switch kind := p.read() % 16; {
		case kind < 8:
			s, at := p.snapshot(last.Snap), p.near(last.At)
			want, wantErr := o.add(s, at)
			if got, e := x.Add(s, at); e != wantErr || !alike(got, want) {
				t.Fatalf("Add(%s, %d) behind %s: %s, %d, not %s, %d", short(s), at, short(last), short(got), e, short(want), wantErr)
			}
			told[wantErr]++
		case kind < 13:
			y := api.Tick{N: o.last() + 1, Snap: p.snapshot(last.Snap), At: p.near(last.At)}
			if kind == 12 {
				y.N = p.near(y.N)
			}
			want := o.put(y)
			puts(t, x, y, want)
			told[want]++
		default:
			below := p.near(o.last() - int64(p.read()%80))
			trims(t, x, below, o.trim(below))
		}
		has(t, x, o.kept(), o.last())
	}
}

// mixed is n bytes of all kinds.
func mixed(seed int64, n int) []byte {
	p := make([]byte, n)
	rand.New(rand.NewSource(seed)).Read(p)
	return p
}

func TestManySteps(t *testing.T) {
	told := map[api.Errno]int{}
	for seed := range int64(300) {
		steps(t, mixed(seed, 1000), told)
	}
	if told[api.OK] < 1000 || told[api.ErrArg] < 1000 {
		t.Error(told)
	}
}

// Of near numbers alone, and with few that are let go: so there come to be as many as may be.
func TestManyStepsThatKeepMore(t *testing.T) {
	told := map[api.Errno]int{}
	for seed := range int64(100) {
		p := mixed(seed, 4000)
		for i := range p {
			if p[i] >= 200 {
				p[i] -= 200
			}
			if p[i]%16 >= 13 && i%8 > 0 {
				p[i] -= 13
			}
		}
		steps(t, p, told)
	}
	if told[api.OK] < 1000 || told[api.ErrArg] < 1000 || told[api.ErrFull] < 1000 {
		t.Error(told)
	}
}

func FuzzSteps(f *testing.F) {
	f.Add(mixed(1, 60))
	f.Add([]byte{0, 2, 1, 1, 5, 9, 3, 0, 1, 2, 14, 0, 1, 12, 0, 0})
	f.Fuzz(func(t *testing.T, todo []byte) { steps(t, todo, map[api.Errno]int{}) })
}
