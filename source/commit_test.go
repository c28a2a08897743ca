package source_test

import (
	"encoding/hex"
	"fmt"
	"slices"
	"strings"
	"testing"

	"carrier/api"
	"carrier/block"
	"carrier/entry"
	"carrier/source"
	"carrier/wal"
)

// commitOf is the entry of a Commit.
func commitOf(x, next, id int64, ops []entry.Op, events []entry.Placed) entry.Entry {
	return entry.Entry{Kind: entry.Commit, Tx: x, Next: next, NextID: id, Ops: ops, Events: events}
}

// The chapter's example.
func TestARowIsThereAgain(t *testing.T) {
	d := block.New(10)
	s, _ := source.Open(d, 1, 1)
	x, _ := s.Begin()
	s.Run(x, stmt(api.Insert, 0, 5, "a"))
	if e := s.Commit(x); e != api.OK {
		t.Fatal(e)
	}
	s, e := source.Open(d, 1, 1)
	if e != api.OK {
		t.Fatal(e)
	}
	has(t, s, 0, row(5, "a"))
}

// The bytes, by hand: a frame's length and sum, then Commit, Tx 2, Next 4, NextID 4, the Ops, the Events.
func TestCommitsBytes(t *testing.T) {
	d, s := made(t, "b b b i2.0.5=a i2.2.6=b o d2.0.5=c i1.1.7=d u2.2.6=ef")
	if s.Size() != 8 { // there is just the Rotate
		t.Fatal(s.Size())
	}
	play(t, s, "c2")
	want := "01" + "02" + "04" + "04" + // Tx 2, Next 4, NextID 4
		"04" + "00000a0161" + "02000c0162" + "00010a0163" + "02000c026566" +
		"02" + "00" + "09" + "010200000001" + "0a0161" + "01" + "08" + "020200000003" + "0a00"
	l := records(d)
	if len(l) != 2 || hex.EncodeToString(l[1]) != want {
		t.Fatalf("%x, not %s", l, want)
	}
	if s.Size() != 8+len(want)/2+6 || !strings.HasPrefix(content(d)[8:], string(wal.Frame(l[1]))) {
		t.Error(s.Size())
	}
	play(t, s, "c3")
	if l = records(d); hex.EncodeToString(l[2]) != "01"+"03"+"04"+"04"+"00"+"00" {
		t.Errorf("%x", l)
	}
}

// Each statement's Ops, in order, with its table; each event by its ID, with its spool.
func TestCommitsEntry(t *testing.T) {
	d, s := made(t, "b i1.0.1=a i1.0.2=b i1.2.3=c c1")
	ends(t, d, 0, commitOf(1, 2, 3, []entry.Op{put(0, 1, "a"), put(0, 2, "b"), put(2, 3, "c")}, in(0, event(1, 1, 0, 1, 1, "a"), event(2, 1, 0, 1, 2, "b"))))
	play(t, s, "b b o i3.0.5=x i2.1.7=y z2.0 o i3.1.8=z z2.2 u2.1.7=w o i3.1.9=v i2.0.1=u b d2.1.7=texts c2")
	ops := []entry.Op{
		put(1, 7, "y"), gone(0, 1, "a"), gone(0, 2, "b"), gone(2, 3, "c"), put(1, 7, "w"), put(0, 1, "u"), gone(1, 7, "texts"),
	}
	events := slices.Concat(
		in(1, event(4, 2, 1, 1, 7, "y"), event(5, 2, 0, 4, 1, ""), event(6, 2, 0, 4, 2, "")),
		in(2, event(8, 2, 1, 2, 7, "w"), event(10, 2, 0, 1, 1, "u"), event(11, 2, 1, 3, 7, "")),
	)
	ends(t, d, 4, commitOf(2, 5, 12, ops, events))
	play(t, s, "x4 t5 +a c3")
	ends(t, d, 7, commitOf(3, 5, 12, []entry.Op{put(0, 5, "x"), put(1, 8, "z"), put(1, 9, "v")},
		append(in(1, event(3, 3, 0, 1, 5, "x")), in(2, event(7, 3, 1, 1, 8, "z"), event(9, 3, 1, 1, 9, "v"))...)))
}

// Events by their IDs, also where a lower spool has the later ones.
func TestCommitsEventsByTheirIDs(t *testing.T) {
	d, s := made(t, "o b i1.0.1=a o i1.0.2=b o i1.0.3=c")
	stand(t, s, "3.1:i0.3=c", "1.1:i0.1=a", "2.1:i0.2=b")
	play(t, s, "c1")
	events := slices.Concat(in(1, event(1, 1, 0, 1, 1, "a")), in(2, event(2, 1, 0, 1, 2, "b")), in(0, event(3, 1, 0, 1, 3, "c")))
	ends(t, d, 3, commitOf(1, 2, 4, []entry.Op{put(0, 1, "a"), put(0, 2, "b"), put(0, 3, "c")}, events))
	is(t, open(t, d, 3, 2), tell(s))
}

// Commit changes nothing but who is open, and is safe at once.
func TestCommit(t *testing.T) {
	d, s := made(t, "b i1.0.5=a b i2.0.6=b")
	was := tell(s)
	play(t, s, "c1")
	now := tell(s)
	was.now, was.states, was.size, was.rows = at(3, 2), []byte{0, 2, 1, 0}, now.size, []string{"[]", "[{5 a}]", "[]", "[]", "[]", "[]"}
	is(t, s, was)
	if d.Waiting() != 0 {
		t.Error(d.Waiting())
	}
	refusesAll(t, d, s, api.ErrState, "c1 x1 s1 i1.0.5=a z1.0")
	d.Crash([]bool{true, true, true}, 0)
	s = open(t, d, 3, 2)
	has(t, s, 0, row(5, "a"))
	stand(t, s, "1.1:i0.5=a", "", "")
	if s.Manager().State(2) != 3 || s.Queue().NextID() != 3 {
		t.Error(s.Manager().State(2), s.Queue().NextID())
	}
	refusesAll(t, d, s, api.ErrState, "c2 x2 s2 i2.0.5=a")
}

func TestAbort(t *testing.T) {
	d, s := made(t, "b b i1.0.5=a o i1.1.6=b i2.0.7=c o u1.0.5=d b i3.1.8=e")
	bytes := content(d)
	play(t, s, "x1")
	stand(t, s, "", "3.2:i0.7=c", "5.3:i1.8=e")
	if content(d) != bytes || d.Waiting() != 0 {
		t.Error("Abort is in the log")
	}
	refusesAll(t, d, s, api.ErrState, "c1 x1 s1 i1.0.5=a z1.0 d1.0.9")
	if s.Manager().State(1) != 3 || s.Queue().NextID() != 6 {
		t.Error(s.Manager().State(1))
	}
	play(t, s, "b i4.0.5=f i4.1.6=g c4 x2 x3") // nobody is in the way
	has(t, s, 0, row(5, "f"))
	stand(t, s, "", "", "6.4:i0.5=f 7.4:i1.6=g")
	if s = open(t, d, 3, 2); s.Manager().State(1) != 3 || s.Manager().State(2) != 3 || s.Manager().Next() != 5 {
		t.Error(s.Manager().Now())
	}
}

// fat is words by which 1 does so many statements, of which the entry is longer than any record may be.
func fat(x int64, n int) string {
	var l []string
	for i := range n {
		l = append(l, fmt.Sprintf("i%d.0.%d=%s", x, deep+int64(i), letters("x", 40)))
	}
	return strings.Join(l, " ")
}

// An entry that is too long: nothing is changed, and who has done so much stays open.
func TestCommitThatIsTooLong(t *testing.T) {
	d, s := made(t, "b i1.0.5=a c1 b b i3.0.6=b "+fat(2, 40))
	for range 3 {
		refusesAll(t, d, s, api.ErrArg, "c2 s2")
	}
	if l, e := s.Run(2, stmt(5, 0, deep+39, "")); e != api.OK || len(l) != 1 {
		t.Error(l, e)
	}
	refusesAll(t, d, s, api.ErrFull, "i2.0.7=x")
	play(t, s, "c3 x2")
	has(t, s, 0, row(5, "a"), row(6, "b"))
	is(t, open(t, twin(d), 3, 2), tell(s))
	// the longest one that is short enough
	d, s = made(t, "b "+fat(1, 34))
	if e := do(s, "c1"); e != api.OK || s.Size() < 3800 {
		t.Error(e, s.Size())
	}
	is(t, open(t, twin(d), 3, 2), tell(s))
}

// An op whose text can't be laid is in the way of all of its transaction.
func TestCommitOfATextThatCantBeLaid(t *testing.T) {
	d, s := made(t, "b i1.0.5=a c1 b d2.0.5="+letters("x", 40)+" b i3.0.6=a d3.0.6="+letters("x", 41))
	refusesAll(t, d, s, api.ErrArg, "c3 s3")
	play(t, s, "c2")
	refusesAll(t, d, s, api.ErrArg, "c3")
	play(t, s, "x3")
	has(t, s, 0)
	ends(t, d, 1, commitOf(2, 4, 5, []entry.Op{gone(0, 5, letters("x", 40))}, in(0, event(2, 2, 0, 3, 5, ""))))
}

// A log without room: nothing is changed, and who wanted to commit stays open.
func TestCommitWithoutRoom(t *testing.T) {
	d := block.New(2)
	s := open(t, d, 3, 2)
	play(t, s, "b i1.0.5=a c1 b i2.0.6=bbbbbbbbbbbbb b i3.2.7="+letters("c", 20))
	refusesAll(t, d, s, api.ErrFull, "c2 s2")
	play(t, s, "d2.0.6")
	refusesAll(t, d, s, api.ErrFull, "c2 s2")
	play(t, s, "c3")
	if s.Size() > 64 {
		t.Error(s.Size())
	}
	refusesAll(t, d, s, api.ErrFull, "c2 t5 o")
	refusesAll(t, d, s, api.ErrWait, "+a")
	play(t, s, "x2 b")
	has(t, s, 0, row(5, "a"))
	again := open(t, twin(d), 3, 2)
	if again.Manager().Next() != 4 || again.Manager().State(2) != 3 || again.Size() != s.Size() {
		t.Error(again.Manager().Now())
	}
	has(t, again, 0, row(5, "a"))
	has(t, again, 2, row(7, letters("c", 20)))
}

// As many bytes as there is room for: the last one fits, one more doesn't.
func TestCommitIntoTheLastByte(t *testing.T) {
	for n := range 41 {
		d := block.New(2)
		s := open(t, d, 1, 0)
		play(t, s, "b i1.0.5="+letters("x", n))
		if e := do(s, "c1"); e != api.OK || s.Size() != 16+n {
			t.Fatal(n, e, s.Size())
		}
		play(t, s, "b i2.0.6=")
		want := api.OK
		if 16+n+16 > 64 {
			want = api.ErrFull
		}
		if e := do(s, "c2"); e != want {
			t.Fatal(n, e, s.Size())
		}
	}
}

// Stage lays the same bytes, and leaves them waiting: nothing else is changed.
func TestStage(t *testing.T) {
	d, s := made(t, "b i1.0.5=a i1.2.6=b b i2.0.7=c o t5 +a")
	other := twin(d)
	was := tell(s)
	play(t, s, "s1")
	if d.Waiting() == 0 {
		t.Error("nothing waits")
	}
	ends(t, d, 3, commitOf(1, 3, 3, []entry.Op{put(0, 5, "a"), put(2, 6, "b")}, in(0, event(1, 1, 0, 1, 5, "a"))))
	was.size = s.Size()
	is(t, s, was)
	if s.Size() == open(t, other, 3, 2).Size() {
		t.Error(s.Size())
	}
}

// Whatever of a Commit that was just staged is lost, or torn: all is there, or nothing.
func TestStageAndCrash(t *testing.T) {
	script := "b i1.0.5=a c1 t1 +a b b i2.0.6=" + letters("y", 30) + " u2.0.5=" + letters("z", 25) + " i3.1.5=b"
	d, s := made(t, script)
	size := s.Size()
	before := open(t, twin(d), 3, 2)
	play(t, s, "s2")
	all := d.Waiting()
	whole := open(t, twin(d), 3, 2)
	has(t, before, 0, row(5, "a"))
	has(t, whole, 0, row(5, letters("z", 25)), row(6, letters("y", 30)))
	stand(t, whole, "1.1:i0.5=a 2.2:i0.6="+letters("y", 30)+" 3.2:u0.5="+letters("z", 25), "", "")
	if whole.Manager().State(2) != 2 || whole.Manager().State(3) != 3 || whole.Queue().NextID() != 5 {
		t.Error(whole.Manager().Now())
	}
	for losses := range 1 << all {
		for torn := -1; torn <= 33; torn++ {
			d, s := made(t, script)
			play(t, s, "s2")
			var lost []bool
			for i := range all {
				lost = append(lost, losses>>i&1 == 1)
			}
			d.Crash(lost, torn)
			end := (whole.Size()-1)%32 + 1 // so many bytes of the last block are the record's
			want := tell(before)
			if losses == 0 && torn >= end {
				want = tell(whole)
			} else if open(t, twin(d), 3, 2).Size() != size {
				t.Fatal(losses, torn)
			}
			again := open(t, d, 3, 2)
			is(t, again, want)
			play(t, again, "b c"+fmt.Sprint(again.Manager().Next())+" t2 o") // it goes on
			is(t, open(t, d, 3, 2), tell(again))
		}
	}
}

// What was staged and is there is as if it had been committed.
func TestStagedAndThere(t *testing.T) {
	script := "b i1.0.5=a c1 t1 +a b b i2.0.6=b i3.1.7=c o u2.0.5=d"
	d, s := made(t, script)
	play(t, s, "s2")
	d.Crash(nil, 32)
	d2, s2 := made(t, script)
	play(t, s2, "c2")
	if content(d) != content(d2) {
		t.Error("another log")
	}
	is(t, open(t, d, 3, 2), tell(open(t, d2, 3, 2)))
}
