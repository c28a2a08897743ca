package source_test

import (
	"fmt"
	"math/rand"
	"slices"
	"strings"
	"testing"

	"carrier/api"
	"carrier/block"
	"carrier/source"
)

// script is words of all kinds.
const script = "b i1.0.5=a i1.2.6=b c1 t1 +a +b b b i2.0.5=x u3.0.5=c o i3.1.7=d c3 t1 >a !a.2.4 !a.3.4 o x2 <a t2 >b !b.3.9 m4 o b z5.0 i5.2.8=e c5 t5 >a !a.2.7 " +
	"<a k <b -b +c o m7 t9 o b b i7.1.9=f d8.2.6 c8 c7 t9 >c >a o k -a <c m99 o o o t9 >c <c o k -c o o k t10"

// allowed is the words of the script that aren't refused as they come.
func allowed(t *testing.T, s *source.Source) []string {
	t.Helper()
	var l []string
	for _, word := range strings.Fields(script) {
		if do(s, word) == api.OK {
			l = append(l, word)
		}
	}
	return l
}

// Behind each word: what Open makes of the device is what was there, but for whoever was open; and it has the numbers
// and IDs that the log tells.
func TestOpenAgainBehindEachWord(t *testing.T) {
	words := allowed(t, open(t, block.New(1000), 3, 2))
	if len(words) < 60 {
		t.Fatal(len(words), words)
	}
	d, s := made(t, "")
	for i, word := range words {
		play(t, s, word)
		was := tell(s)
		again := open(t, twin(d), 3, 2)
		if got := tell(again); got.safe() != was.safe() {
			t.Fatalf("%v: %s, not %s", words[:i+1], short(got.safe()), short(was.safe()))
		}
		is(t, again, func() told { o := newModel(3, 2, 1000).again(logged(t, d)); return o.tell() }())
		for x := int64(1); x < s.Manager().Next(); x++ {
			state := s.Manager().State(x)
			if got := again.Manager().State(x); got != state && (state == 2 || got != 3 && got != 0) {
				t.Fatal(word, x, got, state)
			}
		}
		if len(again.Manager().Now().Open) != 0 {
			t.Fatal(again.Manager().Now())
		}
		if again.Queue().NextID() > s.Queue().NextID() || again.Manager().Next() > s.Manager().Next() {
			t.Fatal(again.Queue().NextID(), again.Manager().Next())
		}
	}
}

// Where nobody is open, all is there again, and all goes on as if there had been no Open; wherever there was one.
func TestOpenAgainAndGoOn(t *testing.T) {
	whole := allowed(t, open(t, block.New(1000), 3, 2))
	d, s := made(t, strings.Join(whole, " "))
	opens := 0
	for i := range whole {
		d2, s2 := made(t, strings.Join(whole[:i], " "))
		if len(s2.Manager().Now().Open) > 0 || last(s2) > 0 {
			continue
		}
		opens++
		s2 = open(t, d2, 3, 2)
		play(t, s2, strings.Join(whole[i:], " "))
		if got, want := tell(s2), tell(s); got.safe() != want.safe() || content(d) != content(d2) {
			t.Fatalf("%v: %s, not %s", whole[:i], short(got.safe()), short(want.safe()))
		}
	}
	if opens < 20 {
		t.Error(opens)
	}
}

// last is how many transactions ended behind the last one that is in the log: their numbers are given again.
func last(s *source.Source) int64 {
	x := s.Manager().Next() - 1
	n := int64(0)
	for x > 0 && s.Manager().State(x) == 3 {
		x--
		n++
	}
	return n
}

// Two sources, of which one is opened again whenever nobody is open, tell the same in long scripts.
func TestOpenAgainAndAgain(t *testing.T) {
	for seed := range int64(20) {
		r := rand.New(rand.NewSource(seed))
		d, s := made(t, "t0 +a +b")
		d2, s2 := made(t, "t0 +a +b")
		now := int64(0)
		both := func(word string) {
			t.Helper()
			if a, b := do(s, word), do(s2, word); a != b {
				t.Fatal(seed, word, a, b)
			}
		}
		for range 120 {
			var script []string
			x := s.Manager().Next()
			script = append(script, "b", "b")
			for range r.Intn(4) {
				script = append(script, fmt.Sprintf("%c%d.%d.%d=%d", "iiud"[r.Intn(4)], x+int64(r.Intn(2)), r.Intn(3), r.Intn(4), r.Intn(9)))
				if r.Intn(4) == 0 {
					script = append(script, "o")
				}
			}
			script = append(script, fmt.Sprint(slices.Clone([]string{"c", "x"})[r.Intn(2)], x), fmt.Sprint("c", x+1))
			for range r.Intn(8) {
				name := string("ab"[r.Intn(2)])
				now += int64(r.Intn(3) / 2)
				script = append(script, slices.Clone([]string{
					fmt.Sprint("t", now), ">" + name, "<" + name, "o", "o", "k", fmt.Sprint("m", now), fmt.Sprintf("!%s.%d.%d", name, max(1, s.Queue().NextID()-int64(r.Intn(9))), now+2),
				})[r.Intn(8)])
			}
			for _, word := range script {
				both(word)
			}
			if r.Intn(3) > 0 {
				s2 = open(t, d2, 3, 2)
			}
			a, b := tell(s), tell(s2)
			if a.safe() != b.safe() || a.id != b.id || a.now.Max != b.now.Max || fmt.Sprint(a.states) != fmt.Sprint(b.states) || content(d) != content(d2) {
				t.Fatalf("%d: %s, not %s", seed, short(b.text()), short(a.text()))
			}
		}
	}
}

// A number that a tick saw isn't given once more, though nothing else in the log knows it: a consumer would take the
// new one for one that it was told.
func TestNumbersThatATickSaw(t *testing.T) {
	d, s := made(t, "b b b x2 t1 +a")
	s = open(t, d, 3, 2)
	if x, e := s.Begin(); x != 4 || e != api.OK {
		t.Fatal(x, e)
	}
	play(t, s, "i4.0.5=x c4 t2 >a")
	batch(t, s, "a", "1.4:i0.5=x")
	if s.Manager().State(1) != 3 || s.Manager().State(3) != 3 {
		t.Error(s.Manager().Now())
	}
	// and those of who is lost otherwise are
	play(t, s, "b b i6.0.6=y x6")
	s = open(t, d, 3, 2)
	play(t, s, "b i5.0.6=z c5 t3 <a >a")
	batch(t, s, "a", "2.5:i0.6=z")
	has(t, s, 0, row(5, "x"), row(6, "z"))
}

// Rows of many snapshots are there again: also of such as see one without another one.
func TestRowsOfManySnapshots(t *testing.T) {
	d, s := made(t, "b i1.0.5=a i1.0.6=b c1 b u2.0.5=c i2.0.7=d c2 b d3.0.5 u3.0.6=e c3 b i4.0.5=f d4.0.6 i4.0.6=g c4 b i5.0.8=h x5 b i6.0.9=i b z7.0")
	again := open(t, d, 3, 2)
	for most := int64(-1); most <= 9; most++ {
		for set := range 1 << 8 {
			snap := at(most)
			for x := range int64(8) {
				if set>>x&1 == 1 {
					snap.Open = append(snap.Open, x)
				}
			}
			was := slices.Clone(snap.Open)
			for table := -1; table <= 3; table++ {
				a, b := s.Rows(table, snap), again.Rows(table, snap)
				if !slices.Equal(a, b) || (table < 0 || table > 2) && a != nil {
					t.Fatal(snap, table, a, b)
				}
			}
			if !slices.Equal(snap.Open, was) {
				t.Fatal(snap)
			}
		}
	}
	for most, want := range []string{"[]", "[]", "[{5 a} {6 b}]", "[{5 c} {6 b} {7 d}]", "[{6 e} {7 d}]", "[{5 f} {6 g} {7 d}]", "[{5 f} {6 g} {7 d}]", "[{5 f} {6 g} {7 d}]"} {
		if got := fmt.Sprint(again.Rows(0, at(int64(most)))); got != want {
			t.Error(most, got, want)
		}
	}
}

// A device that two were opened on, one behind the other: what both did is there.
func TestOpenTwice(t *testing.T) {
	d, s := made(t, "b i1.0.5=a c1")
	for range 3 {
		want := tell(s)
		s = open(t, d, 3, 2)
		is(t, s, want)
		bytes := content(d)
		open(t, d, 3, 2)
		if content(d) != bytes || d.Waiting() != 0 {
			t.Error("Open changes the device")
		}
	}
}
