package source_test

import (
	"fmt"
	"math"
	"strings"
	"testing"

	"carrier/api"
	"carrier/block"
	"carrier/entry"
	"carrier/source"
)

// again is an event as it comes again.
func again(id, x int64, owner string, tries int, kind byte, key int64, text string) api.Event {
	return api.Event{ID: id, Tx: x, Owner: owner, Tries: tries, Kind: kind, Row: row(key, text)}
}

// maints tells a fault if Maint tells another number, or another error.
func maints(t *testing.T, s *source.Source, now int64, want int, refusal api.Errno) {
	t.Helper()
	if n, e := s.Maint(now); n != want || e != refusal {
		t.Fatalf("%d, %d, not %d, %d", n, e, want, refusal)
	}
}

// waiting is a source of which several events wait for a and for b: 1 and 2 of both at 5, 3 of a at 7, and of b at 3.
const waiting = "t1 +a +b b i1.0.5=x u1.0.5=y d1.0.5 c1 t2 >a >b !b.2.5 !a.2.5 !a.1.5 !b.1.5 !a.3.7 !b.3.3 <a <b "

func TestMaintOfNothingDue(t *testing.T) {
	d, s := made(t, "")
	for _, now := range []int64{deep, -1, 0, 1, far} {
		keeps(t, d, s, func() { maints(t, s, now, 0, api.OK) })
	}
	d, s = made(t, waiting+"b b b b b b")
	for _, now := range []int64{deep, -1, 0, 1, 2} {
		keeps(t, d, s, func() { maints(t, s, now, 0, api.OK) })
	}
	refuses(t, d, s, api.ErrFull, func() api.Errno { _, e := s.Maint(3); return e }) // nobody more may be open
}

func TestMaint(t *testing.T) {
	d, s := made(t, waiting+"b i2.0.8=w o")
	n := len(records(d))
	maints(t, s, 4, 1, api.OK)
	ends(t, d, n, entry.Entry{Kind: entry.Maint, Tx: 3, Next: 4, NextID: 5, Events: in(1, again(3, 3, "b", 1, 3, 5, "")), At: 4})
	if d.Waiting() != 0 || s.Manager().State(3) != 2 || s.Manager().State(2) != 1 {
		t.Error(d.Waiting(), s.Manager().Now())
	}
	stand(t, s, "1.1:i0.5=x 2.1:u0.5=y 3.1:d0.5= 4.2:i0.8=w", "3.3b:d0.5=", "")
	play(t, s, "o")
	maints(t, s, 4, 0, api.OK)
	maints(t, s, far, 5, api.OK)
	ends(t, d, n+2, entry.Entry{Kind: entry.Maint, Tx: 4, Next: 5, NextID: 5, At: far, Events: in(2,
		again(1, 4, "a", 1, 1, 5, "x"), again(1, 4, "b", 1, 1, 5, "x"), again(2, 4, "a", 1, 2, 5, "y"), again(2, 4, "b", 1, 2, 5, "y"), again(3, 4, "a", 1, 3, 5, ""))})
	maints(t, s, far, 0, api.OK)
	if len(s.Queue().Retries().All()) != 0 || s.Queue().NextID() != 5 {
		t.Error(s.Queue().Retries().All(), s.Queue().NextID())
	}
	play(t, s, "x2 t3 >a >b")
	batch(t, s, "a", "1.4a:i0.5=x 2.4a:u0.5=y 3.4a:d0.5=")
	batch(t, s, "b", "1.4b:i0.5=x 2.4b:u0.5=y 3.3b:d0.5=")
	is(t, open(t, twin(d), 3, 2), tell(s))
	remembers(t, d, s, "!a.2.9 <a m9 t4 >a !a.2.9", retryOf("a", 2, 9), named(entry.Finish, "a", 3),
		entry.Entry{Kind: entry.Maint, Tx: 5, Next: 6, NextID: 5, At: 9, Events: in(2, again(2, 5, "a", 2, 2, 5, "y"))},
		tickOf(4, 4, 6), named(entry.Open, "a", 4), retryOf("a", 2, 9))
	if l := s.Queue().Retries().All(); len(l) != 1 || l[0].Event.Tries != 3 {
		t.Error(l)
	}
}

// Times on all edges: what is due isn't above now.
func TestMaintsTimes(t *testing.T) {
	for _, when := range []int64{deep, deep + 1, -1, 0, 1, 1 << 32, far - 1, far} {
		d, s := made(t, fmt.Sprintf("t1 +a b i1.0.5=x c1 t2 >a !a.1.%d", when))
		if when > deep {
			keeps(t, d, s, func() { maints(t, s, when-1, 0, api.OK) })
			is(t, open(t, twin(d), 3, 2), tell(s))
		}
		maints(t, s, when, 1, api.OK)
		is(t, open(t, twin(d), 3, 2), tell(s))
	}
}

// As many as may wait come again at once.
func TestMaintOfAll(t *testing.T) {
	var script []string
	for n := range 16 {
		script = append(script, fmt.Sprintf("i1.0.%d=%s", deep+int64(n), letters("x", 40)))
	}
	name := letters("n", 40)
	d, s := made(t, "t1 +"+name+" b "+strings.Join(script, " ")+" c1 t2 >"+name)
	for n := range 16 {
		play(t, s, fmt.Sprintf("!%s.%d.%d", name, 16-n, n/4))
	}
	maints(t, s, 2, 12, api.OK)
	maints(t, s, math.MaxInt64, 4, api.OK)
	play(t, s, "t3 <"+name+" >"+name)
	if l, e := s.Batch(name); len(l) != 16 || e != api.OK || l[0].Tx != 3 || l[15].Tx != 2 {
		t.Error(l, e)
	}
	is(t, open(t, twin(d), 3, 2), tell(s))
}

// A log without room: the transaction that had begun is aborted, and that is all.
func TestMaintWithoutRoom(t *testing.T) {
	with := func(left int) (*block.Device, *source.Source) {
		d := block.New(20)
		s := open(t, d, 3, 2)
		play(t, s, waiting+"b i2.0.8=w o")
		fill(t, d, s, left)
		return d, s
	}
	d, s := with(200)
	size := s.Size()
	maints(t, s, 3, 1, api.OK)
	need := s.Size() - size
	for left := range need {
		d, s = with(left)
		for range 8 { // more than may be open at once
			want, bytes, x := tell(s), content(d), s.Manager().Next()
			maints(t, s, 3, 0, api.ErrFull)
			want.now.Max++
			want.states = append(want.states[:x], 3, 0)
			is(t, s, want)
			if s.Manager().State(x) != 3 || content(d) != bytes || d.Waiting() != 0 {
				t.Fatal(x, s.Manager().State(x))
			}
		}
		maints(t, s, 2, 0, api.OK)
	}
	d, s = with(need)
	maints(t, s, 3, 1, api.OK)
	is(t, open(t, d, 3, 2), func() told { o := newModel(3, 2, 20).again(logged(t, d)); return o.tell() }())
}

// An event of which no bytes can be laid, for no ID is left: it stays, and waits.
func TestMaintOfWhatCantBeLaid(t *testing.T) {
	d, s := made(t, "t1 +a b")
	s.Queue().SetNextID(0)
	play(t, s, "i1.0.5=x")
	refusesAll(t, d, s, api.ErrArg, "c1 s1")
	s.Queue().SetNextID(far)
	play(t, s, "x1 b i2.0.6=y")
	refusesAll(t, d, s, api.ErrArg, "c2") // its own ID could be laid, but the next one is below 0
}

// Nobody more may be open, or there is no number left.
func TestMaintWithoutATransaction(t *testing.T) {
	d, s := made(t, waiting+"b b b b b b")
	refusesAll(t, d, s, api.ErrFull, "m3 m9")
	play(t, s, "x4 m3")
	if s.Manager().State(8) != 2 {
		t.Error(s.Manager().Now())
	}
	d, s = made(t, waiting)
	for s.Manager().Next() < api.MaxTxid {
		x, _ := s.Begin()
		s.Abort(x)
	}
	for range 2 {
		if n, e := s.Maint(3); n != 0 || e != api.ErrFull {
			t.Error(n, e)
		}
	}
	play(t, s, "m2 t9")
	if d.Waiting() != 0 || open(t, d, 3, 2).Manager().Next() != api.MaxTxid {
		t.Error(d.Waiting())
	}
}
