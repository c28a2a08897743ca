package spool_test

import (
	"slices"
	"testing"

	"carrier/api"
	"carrier/spool"
)

// asked are the calls that tell lists, by names.
func asked(s *spool.Spools) map[string]func() []api.Event {
	return map[string]func() []api.Event{
		"List 0": func() []api.Event { return s.List(0) },
		"List 1": func() []api.Event { return s.List(1) },
		"List 2": func() []api.Event { return s.List(2) },
		"All":    s.All,
		"Next":   s.Next,
	}
}

// overwrite writes into a list, and into the room that it has behind it.
func overwrite(l []api.Event) {
	l = l[:cap(l)]
	for i := range l {
		l[i] = ev("y77")
	}
}

// full are states in which all calls have something to tell, of few and of many.
func full() []string {
	return []string{
		"* a5 b7 | a6 | c1 b1 a1",
		"a5 b7 | * a6 b3 c2 a9 | c1 b1 a1",
		"a5 b7 a3 c3 b2 | a6 | * c1 b1 a1 a2 a3 a4 a5",
		"* | a6 | ", // All's is one table's alone
		" | * a6 a7 | c8",
	}
}

func TestAnswersMayBeWrittenOver(t *testing.T) {
	for _, text := range full() {
		s := made(t, text)
		for name, ask := range asked(s) {
			first, second := ask(), ask()
			was := slices.Clone(second)
			overwrite(first)
			alike(t, name, second, was)
			is(t, s, text)
			overwrite(second)
			is(t, s, text)
			s.Add(ev("z9"))
			s.Forget(26)
			overwrite(first)
			is(t, s, text)
		}
	}
}

// Who appends to an answer doesn't write where the tables' next events go, nor another one.
func TestRoomBehindAnswersIsTheCallers(t *testing.T) {
	for _, text := range full() {
		for n := range 9 { // with all kinds of room behind a table
			s := made(t, text)
			for range n {
				s.Add(ev("b4"))
			}
			o := read(text)
			for range n {
				o.tables[o.cur] = append(o.tables[o.cur], ev("b4"))
			}
			has(t, s, o)
			for name, ask := range asked(s) {
				first, second := ask(), ask()
				longer := append(first, ev("y1"))
				other := append(second, ev("y2"))
				if longer[len(first)] != ev("y1") || other[len(second)] != ev("y2") {
					t.Fatal(name, longer, other)
				}
				has(t, s, o)
			}
			answers := [][]api.Event{append(s.List(o.cur), ev("y1")), append(s.All(), ev("y2"))}
			s.Add(ev("z9"))
			alike(t, "behind List's", answers[0][len(answers[0])-1:], evs("y1"))
			alike(t, "behind All's", answers[1][len(answers[1])-1:], evs("y2"))
			o.tables[o.cur] = append(o.tables[o.cur], ev("z9"))
			has(t, s, o)
		}
	}
}

// What was answered stays as it was, whatever is done behind it.
func TestAnswersStay(t *testing.T) {
	for _, text := range full() {
		for _, done := range []func(s *spool.Spools){
			func(s *spool.Spools) { s.Add(ev("z9")) },
			func(s *spool.Spools) {
				for i := range 30 {
					s.AddTo(i%3, ev("z0"))
				}
			},
			func(s *spool.Spools) { s.Forget(1) },
			func(s *spool.Spools) { s.Forget(2) },
			func(s *spool.Spools) { s.Forget(1); s.Forget(2); s.Forget(3) },
			func(s *spool.Spools) { s.Rotate(true) },
			func(s *spool.Spools) {
				for range 6 {
					s.Rotate(true)
					s.Add(ev("z9"))
				}
			},
			func(s *spool.Spools) { s.Rotate(true); s.AddTo(0, ev("z9")); s.Forget(1); s.Add(ev("z8")) },
		} {
			s := made(t, text)
			o := read(text)
			want := map[string][]api.Event{"List 0": o.tables[0], "List 1": o.tables[1], "List 2": o.tables[2], "All": o.all(), "Next": o.tables[behind(o.cur)]}
			answers := map[string][]api.Event{}
			for name, ask := range asked(s) {
				answers[name] = ask()
			}
			done(s)
			for name, l := range answers {
				alike(t, name, l, want[name])
			}
		}
	}
}

// What was handed in is the caller's again: an event is a value, and so is each place that it stands in.
func TestEventsMayBeHandedInAgain(t *testing.T) {
	s := spool.New()
	e := ev("a5")
	s.Add(e)
	s.AddTo(1, e)
	e.ID, e.Row.Text = 9, "written over"
	is(t, s, "* a5 | a5 | ")
	l := s.All()
	for _, one := range l {
		s.AddTo(2, one)
	}
	clear(l)
	is(t, s, "* a5 | a5 | a5 a5")
}

func TestSpoolsShareNothing(t *testing.T) {
	a, b := spool.New(), spool.New()
	a.Add(ev("a5"))
	is(t, b, "* | | ")
	rotates(t, a, false, 2, api.OK)
	is(t, b, "* | | ")
	b.AddTo(2, ev("b6"))
	is(t, a, "a5 | * | ")
	b.Forget(1)
	is(t, a, "a5 | * | ")
	rotates(t, a, true, 2, api.OK)
	is(t, b, "* | | b6")
	is(t, spool.New(), "* | | ")
}

// Asking changes nothing, however often one asks.
func TestAskingChangesNothing(t *testing.T) {
	for _, text := range full() {
		s := made(t, text)
		for range 3 {
			for _, ask := range asked(s) {
				ask()
				is(t, s, text)
			}
		}
	}
}
