package source_test

import (
	"fmt"
	"slices"
	"strings"
	"testing"

	"carrier/api"
	"carrier/block"
	"carrier/cursor"
	"carrier/entry"
	"carrier/snap"
	"carrier/source"
)

// remembers tells a fault if the words of a text aren't done, with just those entries, each at once safe, or if Open
// makes something else of the log.
func remembers(t *testing.T, d *block.Device, s *source.Source, text string, want ...entry.Entry) {
	t.Helper()
	n := len(records(d))
	play(t, s, text)
	if d.Waiting() != 0 {
		t.Fatal(text, d.Waiting(), "writes wait")
	}
	ends(t, d, n, want...)
	again := tell(open(t, twin(d), 3, 2))
	if was := tell(s); again.safe() != was.safe() {
		t.Fatalf("%s: %s, not %s", text, short(again.safe()), short(was.safe()))
	}
}

func tickOf(n, when, most int64, open ...int64) entry.Entry {
	return entry.Entry{Kind: entry.Tick, Tick: api.Tick{N: n, Snap: at(most, open...), At: when}}
}

func named(kind byte, name string, n int64) entry.Entry {
	return entry.Entry{Kind: kind, Name: name, N: n}
}

func TestTick(t *testing.T) {
	d, s := made(t, "")
	for i, c := range []struct {
		before string
		now    int64
		snap   api.Snapshot
	}{
		{"", deep, at(1)}, {"", deep, at(1)}, {"", -7, at(1)}, {"b", 0, at(2, 1)}, {"b b c2", 0, at(4, 1, 3)}, {"c1 x3", 5, at(4)}, {"b", far, at(5, 4)}, {"", far, at(5, 4)},
	} {
		play(t, s, c.before)
		n := len(records(d))
		x, e := s.Tick(c.now)
		want := api.Tick{N: int64(i + 1), Snap: c.snap, At: c.now}
		if e != api.OK || x.N != want.N || !snap.Same(x.Snap, c.snap) || x.At != c.now {
			t.Fatal(x, e, want)
		}
		ends(t, d, n, entry.Entry{Kind: entry.Tick, Tick: want})
		if kept, there := s.Queue().Ticks().Get(x.N); !there || !snap.Same(kept.Snap, c.snap) || d.Waiting() != 0 {
			t.Fatal(kept, there)
		}
		is(t, open(t, twin(d), 3, 2), func() told { o := newModel(3, 2, 1000).again(logged(t, d)); return o.tell() }())
	}
	refusesAll(t, d, s, api.ErrArg, fmt.Sprintf("t%d t0 t%d", int64(deep), int64(far-1)))
}

func TestTickThatIsRefused(t *testing.T) {
	d, s := made(t, "t5")
	refusesAll(t, d, s, api.ErrArg, "t4 t-1 t0")
	for range api.MaxTicks - 1 {
		play(t, s, "t5")
	}
	refusesAll(t, d, s, api.ErrFull, "t5 t4 t6")
	play(t, s, "k t5 +a")
	for range api.MaxTicks - 2 {
		play(t, s, "t6")
	}
	refusesAll(t, d, s, api.ErrFull, "t6 t4")
	if x, e := s.Tick(7); x.N != 0 || x.At != 0 || x.Snap.Max != 0 || x.Snap.Open != nil || e != api.ErrFull {
		t.Error(x, e)
	}
	remembers(t, d, s, ">a <a k t9", named(entry.Open, "a", 66), named(entry.Finish, "a", 66), entry.Entry{Kind: entry.Trim, N: 66}, tickOf(128, 9, 1))
}

// What Load made of the manager may see less than the last tick: it is refused as layer 11 does.
func TestTickThatDoesntCover(t *testing.T) {
	commit := func(x, next int64) entry.Entry { return commitOf(x, next, 1, nil, nil) }
	d := remembered(t, tickOf(1, 5, 9), commit(2, 3))
	s := open(t, d, 3, 2)
	refusesAll(t, d, s, api.ErrArg, "t5 t6")
	play(t, s, "b b b b b b x3 x4 x5 x6 x7")
	refusesAll(t, d, s, api.ErrArg, "t5") // 8 is open, which the last one saw
	play(t, s, "c8 b t5 b t5")
	refusesAll(t, d, s, api.ErrArg, "t4")
}

func TestRegister(t *testing.T) {
	d, s := made(t, "")
	refusesAll(t, d, s, api.ErrWait, "+a + +"+letters("a", 41))
	play(t, s, "t1 t2")
	refusesAll(t, d, s, api.ErrArg, "+ +"+letters("a", 41)+" +"+letters("é", 21))
	remembers(t, d, s, "+b", named(entry.Register, "b", 2))
	refusesAll(t, d, s, api.ErrDup, "+b")
	remembers(t, d, s, "t3 +"+letters("a", 40), tickOf(3, 3, 1), named(entry.Register, letters("a", 40), 3))
	remembers(t, d, s, "+\xff\x00 k +"+api.Replica, named(entry.Register, "\xff\x00", 3), entry.Entry{Kind: entry.Trim, N: 2}, named(entry.Register, api.Replica, 3))
	refusesAll(t, d, s, api.ErrFull, "+c +d")
	refusesAll(t, d, s, api.ErrDup, "+b +"+api.Replica)
	refusesAll(t, d, s, api.ErrArg, "+ +"+letters("a", 41))
	want := []cursor.Cursor{{Name: letters("a", 40), Last: 3}, {Name: "b", Last: 2}, {Name: api.Replica, Last: 3}, {Name: "\xff\x00", Last: 3}}
	if l := s.Queue().Cursors().All(); !slices.Equal(l, want) {
		t.Error(l)
	}
	remembers(t, d, s, ">b -b +c", named(entry.Open, "b", 3), named(entry.Unregister, "b", 0), named(entry.Register, "c", 3))
}

func TestUnregister(t *testing.T) {
	d, s := made(t, "t1 +a +b b i1.0.5=x i1.0.6=y c1 t2 >a >b !a.1.5 !b.1.5 !b.2.5")
	refusesAll(t, d, s, api.ErrNone, "-c - -A -aa")
	remembers(t, d, s, "-b", named(entry.Unregister, "b", 0))
	refusesAll(t, d, s, api.ErrNone, "-b >b <b !b.1.5")
	if l := s.Queue().Retries().All(); len(l) != 1 || l[0].Event.Owner != "a" {
		t.Error(l)
	}
	remembers(t, d, s, "-a", named(entry.Unregister, "a", 0))
	remembers(t, d, s, "+a", named(entry.Register, "a", 2))
	refusesAll(t, d, s, api.ErrState, "<a !a.1.5")
	refusesAll(t, d, s, api.ErrWait, ">a")
}

func TestNextBatchFinish(t *testing.T) {
	d, s := made(t, "b i1.0.5=x c1 t1 +a +b b b i2.0.6=y i3.1.7=z i3.2.8=w c3 t2 c2 t3")
	refusesAll(t, d, s, api.ErrNone, ">c <c > <")
	refusesAll(t, d, s, api.ErrState, "<a")
	n := len(records(d))
	x, e := s.Next("a")
	if x.N != 2 || x.At != 2 || !snap.Same(x.Snap, at(4, 2)) || e != api.OK {
		t.Error(x, e)
	}
	ends(t, d, n, named(entry.Open, "a", 2))
	refusesAll(t, d, s, api.ErrState, ">a")
	keeps(t, d, s, func() { batch(t, s, "a", "3.3:i1.7=z") })
	for _, name := range []string{"c", "", "A"} {
		if l, e := s.Batch(name); l != nil || e != api.ErrNone {
			t.Error(name, l, e)
		}
	}
	if l, e := s.Batch("b"); l != nil || e != api.ErrState {
		t.Error(l, e)
	}
	again := open(t, twin(d), 3, 2)
	batch(t, again, "a", "3.3:i1.7=z")
	refusesAll(t, d, again, api.ErrState, ">a <b")
	if n, e := s.Finish("a"); n != 2 || e != api.OK {
		t.Error(n, e)
	}
	ends(t, d, n+1, named(entry.Finish, "a", 2))
	remembers(t, d, s, ">b >a <a <b", named(entry.Open, "b", 2), named(entry.Open, "a", 3), named(entry.Finish, "a", 3), named(entry.Finish, "b", 2))
	refusesAll(t, d, s, api.ErrWait, ">a")
	refusesAll(t, d, s, api.ErrState, "<a <b")
	remembers(t, d, s, ">b", named(entry.Open, "b", 3))
	batch(t, s, "b", "2.2:i0.6=y")
	if x, e := s.Next("a"); x.N != 0 || x.Snap.Max != 0 || e != api.ErrWait {
		t.Error(x, e)
	}
	if n, e := s.Finish("a"); n != 0 || e != api.ErrState {
		t.Error(n, e)
	}
}

func retryOf(name string, id, when int64) entry.Entry {
	return entry.Entry{Kind: entry.Retry, Name: name, N: id, At: when}
}

func TestRetry(t *testing.T) {
	d, s := made(t, "t1 +a +b b i1.0.5=x i1.0.6=y b i2.0.7=z o c1 t2 c2 t3")
	refusesAll(t, d, s, api.ErrNone, "!c.1.5 !.1.5")
	refusesAll(t, d, s, api.ErrState, "!a.1.5 !a.9.5")
	play(t, s, ">a")
	refusesAll(t, d, s, api.ErrNone, fmt.Sprintf("!a.3.5 !a.4.5 !a.0.5 !a.-1.5 !a.%d.5 !a.%d.5 !c.1.5", int64(far), int64(deep)))
	refusesAll(t, d, s, api.ErrState, "!b.1.5")
	remembers(t, d, s, "!a.2.5", retryOf("a", 2, 5))
	refusesAll(t, d, s, api.ErrDup, "!a.2.5 !a.2.-9")
	remembers(t, d, s, fmt.Sprintf("!a.1.%d", int64(deep)), retryOf("a", 1, deep))
	remembers(t, d, s, fmt.Sprintf(">b !b.2.%d", int64(far)), named(entry.Open, "b", 2), retryOf("b", 2, far))
	var got []string
	for _, x := range s.Queue().Retries().All() {
		got = append(got, fmt.Sprint(x.At, words([]api.Event{x.Event}), x.Event.Tries))
	}
	want := []string{fmt.Sprint(int64(deep), "1.1a:i0.5=x", 1), fmt.Sprint(5, "2.1a:i0.6=y", 1), fmt.Sprint(int64(far), "2.1b:i0.6=y", 1)}
	if !slices.Equal(got, want) {
		t.Error(got)
	}
}

func TestOneRetryMoreThanMayBe(t *testing.T) {
	d, s := made(t, "t1 +a b")
	for n := range 17 {
		play(t, s, fmt.Sprintf("i1.0.%d=x", n))
	}
	play(t, s, "c1 t2 >a")
	for n := range 16 {
		remembers(t, d, s, fmt.Sprintf("!a.%d.%d", n+1, n), retryOf("a", int64(n+1), int64(n)))
	}
	refusesAll(t, d, s, api.ErrFull, "!a.17.5")
	refusesAll(t, d, s, api.ErrDup, "!a.16.5")
	remembers(t, d, s, "m0 !a.17.5", entry.Entry{Kind: entry.Maint, Tx: 2, Next: 3, NextID: 18, Events: in(0, api.Event{ID: 1, Tx: 2, Owner: "a", Tries: 1, Kind: 1, Row: row(0, "x")})}, retryOf("a", 17, 5))
}

func TestRotate(t *testing.T) {
	d, s := made(t, "b i1.0.5=x")
	turn := func(n int64) entry.Entry { return entry.Entry{Kind: entry.Rotate, N: n} }
	remembers(t, d, s, "o", turn(2))
	remembers(t, d, s, "o", turn(2)) // the next one is 0, where 1, who is open, has an event
	refusesAll(t, d, s, api.ErrWait, "o")
	if n, e := s.Rotate(); n != 0 || e != api.ErrWait {
		t.Error(n, e)
	}
	play(t, s, "i1.0.6=y c1")
	if n, e := s.Rotate(); n != 1 || e != api.OK {
		t.Error(n, e) // nobody was ever told a tick
	}
	if n, e := s.Rotate(); n != 2 || e != api.OK {
		t.Error(n, e)
	}
	remembers(t, d, s, "t1 +a b i2.0.7=z c2 o o o", tickOf(1, 1, 2), named(entry.Register, "a", 1),
		commitOf(2, 3, 4, []entry.Op{put(0, 7, "z")}, in(0, event(3, 2, 0, 1, 7, "z"))), turn(2), turn(1), turn(2))
	stand(t, s, "3.2:i0.7=z", "", "")
	refusesAll(t, d, s, api.ErrWait, "o")
	play(t, s, "t2 >a")
	refusesAll(t, d, s, api.ErrWait, "o") // a hasn't finished it
	remembers(t, d, s, "<a o o", named(entry.Finish, "a", 2), turn(1), turn(2))
	stand(t, s, "", "", "")
	if s.Queue().Spools().Cur() != 0 {
		t.Error(s.Queue().Spools().Cur())
	}
}

// Somebody is open as the spool is asked for, and lost behind a crash: its events never were, and are in nobody's way.
func TestRotateBesideWhoIsLost(t *testing.T) {
	d, s := made(t, "b b i1.0.5=x o i1.0.6=y i2.0.7=z c2 o i1.0.8=w")
	refusesAll(t, d, s, api.ErrWait, "o")
	stand(t, s, "1.1:i0.5=x", "2.1:i0.6=y 3.2:i0.7=z", "4.1:i0.8=w")
	again := open(t, twin(d), 3, 2)
	stand(t, again, "", "3.2:i0.7=z", "")
	play(t, again, "o") // it is empty there
	play(t, s, "x1 o")
	is(t, again, func() told { o := tell(s); o.id = again.Queue().NextID(); return o }())
	if n, e := again.Rotate(); n != 1 || e != api.OK {
		t.Error(n, e)
	}
}

func TestTrim(t *testing.T) {
	d, s := made(t, "")
	trim := func(below int64) entry.Entry { return entry.Entry{Kind: entry.Trim, N: below} }
	none := func() {
		t.Helper()
		keeps(t, d, s, func() {
			t.Helper()
			if n, e := s.Trim(); n != 0 || e != api.OK {
				t.Fatal(n, e)
			}
		})
	}
	none()
	play(t, s, "t1")
	none()
	remembers(t, d, s, "t2 k", tickOf(2, 2, 1), trim(far))
	none()
	play(t, s, "+a")
	none()
	play(t, s, "t3 t4")
	none() // a has finished 2, which is the first one
	play(t, s, "+b t5 >a")
	none()
	remembers(t, d, s, "<a k", named(entry.Finish, "a", 3), trim(3))
	none()
	play(t, s, ">a <a >a <a")
	n := len(records(d))
	if n, e := s.Trim(); n != 1 || e != api.OK {
		t.Error(n, e)
	}
	ends(t, d, n, trim(4))
	play(t, s, "t6 >b <b >b <b >a <a")
	none2, e := s.Trim()
	if none2 != 2 || e != api.OK || s.Queue().Ticks().Len() != 1 {
		t.Error(none2, e)
	}
	none()
	play(t, s, "t7 -a")
	none()
	remembers(t, d, s, "t8 -b k", tickOf(8, 8, 1), named(entry.Unregister, "b", 0), trim(far))
	none()
	if s.Queue().Ticks().Len() != 1 || s.Queue().Ticks().Last() != 8 {
		t.Error(s.Queue().Ticks().Last())
	}
}

// fill lets commits of rows of table 2 fill the log, until there is room for just so many bytes.
func fill(t *testing.T, d *block.Device, s *source.Source, left int) {
	t.Helper()
	for key := int64(1000); ; key++ {
		room := d.Size()*api.BlockSize - s.Size() - left
		if room == 0 {
			return
		}
		play(t, s, "b")
		x, text := s.Manager().Next()-1, api.MaxText
		size := func() int {
			return 6 + len(entry.Encode(commitOf(x, x+1, s.Queue().NextID(), []entry.Op{put(2, key, letters("f", text))}, nil)))
		}
		for text > 0 && room != size() && room < size()+25 {
			text--
		}
		play(t, s, fmt.Sprintf("i%d.2.%d=%s c%d", x, key, letters("f", text), x))
	}
}

// prepared is a source, of which the log has room for just so many bytes, and to which each call that remembers may be
// done; below 0: for very many.
func prepared(t *testing.T, left int) (*block.Device, *source.Source) {
	t.Helper()
	d := block.New(18)
	if left < 0 {
		d = block.New(1000)
	}
	s := open(t, d, 3, 2)
	play(t, s, "t0 b i1.0.5=x i1.0.6=y c1 t1 +a +b b i2.0.8=z i2.0.7=w o c2 t2 t3 >a !a.3.5 <a >a b b i4.0.9=v i3.2.5=u")
	if left >= 0 {
		fill(t, d, s, left)
	}
	return d, s
}

// Each call tells ErrFull, if there is no room for its entry, and nothing is changed; it is done, if there is just so much.
func TestNothingIsRememberedWithoutRoom(t *testing.T) {
	for _, word := range strings.Fields("c3 c4 t9 t3 +c -a -b >b <a o k") {
		_, s := prepared(t, -1)
		size := s.Size()
		play(t, s, word)
		need := s.Size() - size
		for left := range need {
			d, s := prepared(t, left)
			refusesAll(t, d, s, api.ErrFull, word)
		}
		d, s := prepared(t, need)
		play(t, s, word)
		if d.Waiting() != 0 || s.Size() != d.Size()*api.BlockSize {
			t.Error(word, s.Size())
		}
		open(t, d, 3, 2)
	}
}

func TestNoRoomForARetry(t *testing.T) {
	with := func(left int) (*block.Device, *source.Source) {
		d := block.New(12)
		s := open(t, d, 3, 2)
		play(t, s, "t1 +a b i1.0.5=x c1 t2 >a")
		fill(t, d, s, left)
		return d, s
	}
	for left := range 11 {
		d, s := with(left)
		refusesAll(t, d, s, api.ErrFull, "!a.1.9")
		refusesAll(t, d, s, api.ErrNone, "!a.2.9 !b.1.9")
		batch(t, s, "a", "1.1:i0.5=x")
	}
	_, s := with(11)
	play(t, s, "!a.1.9")
}

// The call's own errors go ahead of the log's.
func TestOwnErrorsGoAheadOfTheLogs(t *testing.T) {
	for left := range 9 {
		d, s := prepared(t, left)
		refusesAll(t, d, s, api.ErrArg, "t2 + +"+letters("a", 41))
		refusesAll(t, d, s, api.ErrDup, "+a")
		refusesAll(t, d, s, api.ErrNone, "-c >c <c !c.3.5 !a.3.5")
		refusesAll(t, d, s, api.ErrState, ">a <b !b.3.5 c2 s1")
		refusesAll(t, d, s, api.ErrFull, "c3 s4")
	}
	d := block.New(12)
	s := open(t, d, 3, 2)
	play(t, s, "b i1.0.5=x")
	fill(t, d, s, 0)
	refusesAll(t, d, s, api.ErrWait, "+a + +"+letters("a", 41))
	refusesAll(t, d, s, api.ErrFull, "o t5")
	play(t, s, "k x1") // nothing of it is logged
	d = block.New(40)
	s = open(t, d, 3, 2)
	play(t, s, "b i1.0.5=x o o t1 +a +b +c +d")
	fill(t, d, s, 0)
	refusesAll(t, d, s, api.ErrWait, "o >a >d")
	refusesAll(t, d, s, api.ErrFull, "+e -a t1")
}

// A device of no size has room for nothing; what isn't logged goes on.
func TestADeviceOfNoSize(t *testing.T) {
	d := block.New(0)
	s := open(t, d, 3, 2)
	play(t, s, "b i1.0.5=x i1.2.5=y k v m5")
	refusesAll(t, d, s, api.ErrFull, "c1 s1 t0 o")
	refusesAll(t, d, s, api.ErrWait, "+a")
	sees(t, s, 1, 0, row(5, "x"))
	stand(t, s, "1.1:i0.5=x", "", "")
	play(t, s, "x1")
	is(t, open(t, d, 3, 2), empty())
}
