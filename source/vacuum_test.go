package source_test

import (
	"fmt"
	"math/rand"
	"testing"

	"carrier/api"
	"carrier/block"
	"carrier/rel"
	"carrier/source"
)

// vacuums tells a fault if Vacuum lets go another number of versions, or if anybody sees anything else behind it, or if
// there is anything of it in the log.
func vacuums(t *testing.T, d *block.Device, s *source.Source, want int) {
	t.Helper()
	seen := views(t, s)
	keeps(t, d, s, func() {
		t.Helper()
		if n := s.Vacuum(); n != want {
			t.Fatalf("%d, not %d", n, want)
		}
		if n := s.Vacuum(); n != 0 {
			t.Fatal(n, "more")
		}
	})
	if got := views(t, s); got != seen {
		t.Fatalf("%s, not %s", got, seen)
	}
}

// views is what each one sees who is open, and who begins now.
func views(t *testing.T, s *source.Source) string {
	t.Helper()
	var text string
	for table := range 3 {
		text += fmt.Sprint(s.Rows(table, s.Manager().Now()))
		for _, x := range s.Manager().Now().Open {
			l, e := s.Run(x, stmt(rel.Scan, table, 0, ""))
			if e != api.OK {
				t.Fatal(x, e)
			}
			text += fmt.Sprint(x, l)
		}
	}
	return text
}

func TestVacuumWithNobodyOpen(t *testing.T) {
	d, s := made(t, "")
	vacuums(t, d, s, 0)
	play(t, s, "b i1.0.5=a i1.2.6=b u1.0.5=c c1")
	vacuums(t, d, s, 1)
	play(t, s, "b u2.0.5=d d2.2.6 i2.1.7=e c2 b i3.0.8=f u3.0.5=g x3")
	vacuums(t, d, s, 4) // two that 2 let die, and the two that 3 bore
	has(t, s, 0, row(5, "d"))
	has(t, s, 1, row(7, "e"))
	play(t, s, "b z4.0 z4.1 c4")
	vacuums(t, d, s, 2)
	vacuums(t, d, s, 0)
	has(t, open(t, d, 3, 2), 0)
}

// Whoever is open keeps what it sees; also what it lets die itself stays until it is committed.
func TestVacuumWithSomebodyOpen(t *testing.T) {
	d, s := made(t, "b i1.0.5=a i1.0.6=b c1 b b u3.0.5=c c3 b d4.0.5 c4") // 2 is open: it sees 5 a, 6 b
	sees(t, s, 2, 0, row(5, "a"), row(6, "b"))
	has(t, s, 0, row(6, "b"))
	vacuums(t, d, s, 0)
	play(t, s, "b u5.0.6=d c5")
	vacuums(t, d, s, 0)
	play(t, s, "b i6.0.9=x i6.2.9=x x6")
	vacuums(t, d, s, 2) // nobody ever saw these
	sees(t, s, 2, 0, row(5, "a"), row(6, "b"))
	play(t, s, "c2")
	vacuums(t, d, s, 3)
	play(t, s, "b d7.0.6")
	vacuums(t, d, s, 0)
	play(t, s, "c7")
	vacuums(t, d, s, 1)
}

// Several who are open: the least that one of them doesn't see counts, also if that one is over by now, as 2 is for 3.
func TestVacuumWithSeveralOpen(t *testing.T) {
	d, s := made(t, "b i1.0.5=a c1 b b u2.0.5=b c2") // 3 began while 2 was open
	vacuums(t, d, s, 0)
	sees(t, s, 3, 0, row(5, "a"))
	play(t, s, "b u4.0.5=c c4 b") // 5 sees c
	vacuums(t, d, s, 0)
	play(t, s, "x3")
	vacuums(t, d, s, 1) // 5 began while 3 was open: what 4 let die stays
	sees(t, s, 5, 0, row(5, "c"))
	play(t, s, "b u6.0.5=d c6 b") // 7 sees d, and 5 is open
	vacuums(t, d, s, 0)
	play(t, s, "c7")
	vacuums(t, d, s, 0)
	play(t, s, "b c5") // 8, which began while 5 was open, doesn't see 5
	vacuums(t, d, s, 1)
	play(t, s, "c8")
	vacuums(t, d, s, 1)
}

// Of who begins now, whom it doesn't see is one who is open: so this one's begin alone counts, not its snapshot's.
func TestVacuumBelowTheLeast(t *testing.T) {
	d, s := made(t, "b i1.0.5=a c1 b u2.0.5=b c2 b b u4.0.5=c c4") // 3 is open: it sees b; its Least is 3
	vacuums(t, d, s, 1)
	sees(t, s, 3, 0, row(5, "b"))
	has(t, s, 0, row(5, "c"))
}

// What an earlier tick's snapshot sees may go; its rows are told as far as they are there.
func TestVacuumDoesntKeepTicks(t *testing.T) {
	d, s := made(t, "b i1.0.5=a i1.0.6=b c1 t1 b u2.0.5=c c2")
	if l := s.Rows(0, at(2)); fmt.Sprint(l) != "[{5 a} {6 b}]" {
		t.Error(l)
	}
	if n := s.Vacuum(); n != 1 {
		t.Error(n)
	}
	if l := s.Rows(0, at(2)); fmt.Sprint(l) != "[{6 b}]" {
		t.Error(l)
	}
	if l := open(t, d, 3, 2).Rows(0, at(2)); fmt.Sprint(l) != "[{5 a} {6 b}]" { // the log has all
		t.Error(l)
	}
}

// In worlds at random nobody sees anything else behind a Vacuum, and what is let go then is all that may be.
func TestVacuumAtRandom(t *testing.T) {
	for seed := range int64(40) {
		r := rand.New(rand.NewSource(seed))
		d := block.New(3000)
		s := open(t, d, 3, 2)
		for range 200 {
			l := s.Manager().Now().Open
			switch kind := r.Intn(12); {
			case kind < 2 || len(l) == 0:
				s.Begin()
			case kind < 9:
				s.Run(l[r.Intn(len(l))], stmt(byte(1+r.Intn(3)), r.Intn(3), int64(r.Intn(4)), fmt.Sprint(r.Intn(9))))
			case kind < 10:
				s.Commit(l[r.Intn(len(l))])
			case kind < 11:
				s.Abort(l[r.Intn(len(l))])
			default:
				before := views(t, s)
				s.Vacuum()
				if after := views(t, s); after != before || s.Vacuum() != 0 {
					t.Fatal(seed, before, after)
				}
			}
		}
		for _, x := range s.Manager().Now().Open {
			s.Abort(x)
		}
		s.Vacuum()
		x, _ := s.Begin()
		rows := 0
		for table := range 3 {
			rows += len(s.Rows(table, s.Manager().Now()))
			for key := range int64(4) {
				s.Run(x, stmt(api.Delete, table, key, ""))
			}
		}
		s.Commit(x)
		if n := s.Vacuum(); n != rows { // there was nothing else
			t.Fatal(seed, n, rows)
		}
	}
}
