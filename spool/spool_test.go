package spool_test

import (
	"slices"
	"testing"

	"carrier/api"
	"carrier/spool"
)

func TestNewIsEmpty(t *testing.T) {
	is(t, spool.New(), "* | | ")
}

func TestAddGoesBehindWhatIsThere(t *testing.T) {
	s := spool.New()
	s.Add(ev("a5"))
	is(t, s, "* a5 | | ")
	s.Add(ev("b7"))
	is(t, s, "* a5 b7 | | ")
	s.Add(ev("a2"))
	is(t, s, "* a5 b7 a2 | | ")
	s.Add(ev("a5")) // the same once more
	is(t, s, "* a5 b7 a2 a5 | | ")
}

func TestAddGoesIntoTheCurrentTable(t *testing.T) {
	for _, c := range []struct{ was, is string }{
		{"* | | ", "* z9 | | "},
		{" | * | ", " | * z9 | "},
		{" | | * ", " | | * z9"},
		{"* a5 | b6 | c7", "* a5 z9 | b6 | c7"},
		{"a5 | * b6 | c7", "a5 | * b6 z9 | c7"},
		{"a5 | b6 | * c7", "a5 | b6 | * c7 z9"},
		{"a5 | b6 | * ", "a5 | b6 | * z9"},
	} {
		s := made(t, c.was)
		s.Add(ev("z9"))
		is(t, s, c.is)
	}
}

func TestAddToGoesIntoTheTableThatIsNamed(t *testing.T) {
	for _, c := range []struct {
		was string
		i   int
		is  string
	}{
		{"* | | ", 0, "* z9 | | "},
		{"* | | ", 1, "* | z9 | "},
		{"* | | ", 2, "* | | z9"},
		{"* a5 | b6 | c7", 0, "* a5 z9 | b6 | c7"},
		{"* a5 | b6 | c7", 1, "* a5 | b6 z9 | c7"},
		{"* a5 | b6 | c7", 2, "* a5 | b6 | c7 z9"},
		{"a5 | * b6 | c7", 0, "a5 z9 | * b6 | c7"},
		{"a5 | * b6 | c7", 1, "a5 | * b6 z9 | c7"},
		{"a5 | * b6 | c7", 2, "a5 | * b6 | c7 z9"},
		{"a5 | b6 | * c7", 0, "a5 z9 | b6 | * c7"},
		{"a5 | b6 | * c7", 1, "a5 | b6 z9 | * c7"},
		{"a5 | b6 | * c7", 2, "a5 | b6 | * c7 z9"},
	} {
		s := made(t, c.was)
		if err := s.AddTo(c.i, ev("z9")); err != api.OK {
			t.Error(c, err)
		}
		is(t, s, c.is)
	}
}

func TestAddToElsewhere(t *testing.T) {
	for _, text := range []string{"* | | ", "* a5 | b6 | c7 a8", "a5 | b6 | * c7 a8", "a5 | * | "} {
		s := made(t, text)
		for _, i := range elsewhere() {
			if err := s.AddTo(i, ev("z9")); err != api.ErrArg {
				t.Errorf("AddTo %d: %d", i, err)
			}
			is(t, s, text)
		}
		s.Add(ev("z9")) // and all goes on as it would
		if s.Len() != read(text).size()+1 {
			t.Error(text, s.Len())
		}
	}
}

// An event is there as it came, whether it is one that may be or not.
func TestAnyEventIsKeptAsItIs(t *testing.T) {
	var o state
	s := spool.New()
	for n, e := range anyEvents() {
		s.Add(e)
		o.tables[0] = append(o.tables[0], e)
		i := n % 3
		if err := s.AddTo(i, e); err != api.OK {
			t.Fatal(err)
		}
		o.tables[i] = append(o.tables[i], e)
	}
	has(t, s, o)
}

func TestListIsInTheOrderInWhichTheyCame(t *testing.T) {
	s := spool.New()
	for _, step := range []struct {
		i    int
		word string
	}{{2, "c9"}, {0, "a5"}, {1, "b3"}, {0, "b4"}, {2, "a1"}, {2, "b1"}, {1, "a8"}, {0, "a5"}, {2, "c9"}, {0, "c-6"}} {
		if err := s.AddTo(step.i, ev(step.word)); err != api.OK {
			t.Fatal(err)
		}
	}
	alike(t, "List 0", s.List(0), evs("a5 b4 a5 c-6"))
	alike(t, "List 1", s.List(1), evs("b3 a8"))
	alike(t, "List 2", s.List(2), evs("c9 a1 b1 c9"))
	is(t, s, "* a5 b4 a5 c-6 | b3 a8 | c9 a1 b1 c9")
}

func TestListOfNoTable(t *testing.T) {
	for _, text := range []string{"* | | ", "* a5 | b6 | c7 a8", "a5 | b6 | * c7 a8"} {
		s := made(t, text)
		for _, i := range elsewhere() {
			if l := s.List(i); len(l) != 0 {
				t.Errorf("List %d: %s", i, short(l))
			}
		}
		is(t, s, text)
	}
}

func TestAllIsByTheIDs(t *testing.T) {
	for _, c := range []struct{ was, all string }{
		{"* | | ", ""},
		{"* a3 a1 a2 | | ", "a1 a2 a3"},
		{"* | a3 a1 a2 | ", "a1 a2 a3"},
		{"* | | a3 a1 a2", "a1 a2 a3"},
		{"* a1 a2 | a3 a4 | a5 a6", "a1 a2 a3 a4 a5 a6"},
		{"* a5 a6 | a3 a4 | a1 a2", "a1 a2 a3 a4 a5 a6"},
		{"a1 a4 | * a2 a5 | a3 a6", "a1 a2 a3 a4 a5 a6"},
		{"a6 a3 | a5 a2 | * a4 a1", "a1 a2 a3 a4 a5 a6"},
		{"* c10 | b9 | a100", "b9 c10 a100"},
	} {
		alike(t, c.was, made(t, c.was).All(), evs(c.all))
	}
}

// An ID may be any int64: two of them may lie farther from each other than an int64 tells.
func TestAllWithIDsOfAnySize(t *testing.T) {
	s := made(t, "a9223372036854775807 a0 a-1 | * a-9223372036854775808 a9223372036854775806 a4294967296 | a1 a-9223372036854775807 a-4294967297 a4294967297")
	alike(t, "All", s.All(), evs("a-9223372036854775808 a-9223372036854775807 a-4294967297 a-1 a0 a1 a4294967296 a4294967297 a9223372036854775806 a9223372036854775807"))
	s = made(t, "* | | a9223372036854775807 b-9223372036854775808 c0")
	alike(t, "All", s.All(), evs("b-9223372036854775808 c0 a9223372036854775807"))
	s = made(t, "* a-2 | b9223372036854775807 | ")
	alike(t, "All", s.All(), evs("a-2 b9223372036854775807"))
}

// Of like IDs a table's number says which is first, whichever is the current one, and whenever they came.
func TestAllOfLikeIDs(t *testing.T) {
	for _, c := range []struct{ was, all string }{
		{"* a5 | b5 | c5", "a5 b5 c5"},
		{"c5 | * b5 | a5", "c5 b5 a5"},
		{"b5 | c5 | * a5", "b5 c5 a5"},
		{"z5 y5 | * x5 w5 | v5 u5", "z5 y5 x5 w5 v5 u5"},
		{"z5 a5 | m5 | * a5 z5", "z5 a5 m5 a5 z5"},
		{"* a6 c5 | b6 d5 | e5 f6 g4", "g4 c5 d5 e5 a6 b6 f6"},
		{"a6 c5 | b6 d5 | * e5 f6 g4", "g4 c5 d5 e5 a6 b6 f6"},
	} {
		alike(t, c.was, made(t, c.was).All(), evs(c.all))
	}
	s := spool.New()
	for _, i := range []int{2, 1, 0, 2, 0, 1} { // the lower one's came later
		e := ev("a5")
		e.Tx = int64(i*10 + s.Len())
		if err := s.AddTo(i, e); err != api.OK {
			t.Fatal(err)
		}
	}
	var got []int64
	for _, e := range s.All() {
		got = append(got, e.Tx)
	}
	if !slices.Equal(got, []int64{2, 4, 11, 15, 20, 23}) {
		t.Error(got)
	}
}

// Many of few IDs: each of them in the order in which it came.
func TestAllOfManyLikeIDs(t *testing.T) {
	for _, n := range []int{13, 100, 3000} {
		for _, ids := range []int{1, 2, 7} {
			var o state
			s := spool.New()
			for k := range n {
				i := k * 7 % 5 % 3
				e := api.Event{ID: int64(k*k%ids - 1), Tx: int64(k)}
				if err := s.AddTo(i, e); err != api.OK {
					t.Fatal(err)
				}
				o.tables[i] = append(o.tables[i], e)
			}
			has(t, s, o)
		}
	}
}

func TestNextIsBehindTheCurrentOne(t *testing.T) {
	for _, c := range []struct {
		was  string
		cur  int
		next string
	}{
		{"* a5 | b6 | c7", 0, "b6"},
		{"a5 | * b6 | c7", 1, "c7"},
		{"a5 | b6 | * c7", 2, "a5"},
		{"a5 b9 a1 | b6 | * c7", 2, "a5 b9 a1"},
		{"* a5 | | c7", 0, ""},
		{"a5 | * b6 | ", 1, ""},
		{" | b6 | * c7", 2, ""},
	} {
		s := made(t, c.was)
		if s.Cur() != c.cur {
			t.Error(c, s.Cur())
		}
		alike(t, c.was, s.Next(), evs(c.next))
	}
}

func TestForget(t *testing.T) {
	for _, c := range []struct {
		was string
		x   int64
		n   int
		is  string
	}{
		{"* | | ", 1, 0, "* | | "},
		{"* a5 | | ", 1, 1, "* | | "},
		{" | * | a5", 1, 1, " | * | "},
		{"* a5 b6 | | ", 2, 1, "* a5 | | "},
		{"* a5 b7 a3 | a6 c2 | b1 a8 a9", 1, 5, "* b7 | c2 | b1"},
		{"a5 b7 a3 | * a6 c2 | b1 a8 a9", 2, 2, "a5 a3 | * a6 c2 | a8 a9"},
		{"a5 b7 a3 | a6 c2 | * b1 a8 a9", 3, 1, "a5 b7 a3 | a6 | * b1 a8 a9"},
		{"a5 b7 a3 | a6 c2 | * b1 a8 a9", 4, 0, "a5 b7 a3 | a6 c2 | * b1 a8 a9"},
		{"c9 a1 b8 a2 c7 a3 b6 | * | ", 1, 3, "c9 b8 c7 b6 | * | "},
		{"* a1 a2 a3 | a4 a5 | a6", 1, 6, "* | | "},
		{"* a5 a5 b5 a5 | b5 | ", 1, 3, "* b5 | b5 | "},
		{"* a5 b3 | c6 | ", 5, 0, "* a5 b3 | c6 | "}, // 5 is an event's ID
		{"* a5 b3 | c6 | ", 0, 0, "* a5 b3 | c6 | "},
		{"* a5 b3 | c6 | ", -1, 0, "* a5 b3 | c6 | "},
		{"* a5 b3 | c6 | ", 1 << 32, 0, "* a5 b3 | c6 | "},
		{"* a5 b3 | c6 | ", 1<<32 + 1, 0, "* a5 b3 | c6 | "},
		{"* a5 b3 | c6 | ", far, 0, "* a5 b3 | c6 | "},
		{"* a5 b3 | c6 | ", deep, 0, "* a5 b3 | c6 | "},
		{"* a5 b3 | c6 | ", deep + 1, 0, "* a5 b3 | c6 | "},
	} {
		s := made(t, c.was)
		for _, n := range []int{c.n, 0, 0} {
			forgets(t, s, c.x, n)
			is(t, s, c.is)
		}
	}
}

// A transaction's number may be any that an event has, also one that no transaction can have.
func TestForgetOfAnyNumber(t *testing.T) {
	numbers := []int64{deep, deep + 1, -1 << 32, -1, 0, 1, 2, api.MaxTxid, 1 << 32, far - 1, far}
	for _, x := range numbers {
		s := spool.New()
		var o state
		for k := range 3 * len(numbers) {
			e := api.Event{ID: int64(k), Tx: numbers[k/3]}
			if err := s.AddTo(k%3, e); err != api.OK {
				t.Fatal(err)
			}
			if e.Tx != x {
				o.tables[k%3] = append(o.tables[k%3], e)
			}
		}
		forgets(t, s, x, 3)
		has(t, s, o)
		forgets(t, s, x, 0)
	}
}

func TestAddBehindForget(t *testing.T) {
	s := made(t, "a5 b7 | * a6 c2 a4 | b1 a8")
	forgets(t, s, 1, 4)
	s.Add(ev("a3"))
	is(t, s, "b7 | * c2 a3 | b1")
	if err := s.AddTo(0, ev("a9")); err != api.OK {
		t.Error(err)
	}
	is(t, s, "b7 a9 | * c2 a3 | b1")
	forgets(t, s, 1, 2)
	is(t, s, "b7 | * c2 | b1")
}

// Len is the sum of all three, behind each of the other calls.
func TestLen(t *testing.T) {
	s := spool.New()
	for _, step := range []struct {
		done func()
		n    int
	}{
		{func() {}, 0},
		{func() { s.Add(ev("a5")) }, 1},
		{func() { s.AddTo(1, ev("a6")) }, 2},
		{func() { s.AddTo(2, ev("b7")) }, 3},
		{func() { s.AddTo(3, ev("b7")) }, 3},
		{func() { s.Add(ev("a5")) }, 4},
		{func() { s.Cur() }, 4},
		{func() { s.List(0) }, 4},
		{func() { s.List(3) }, 4},
		{func() { s.All() }, 4},
		{func() { s.Next() }, 4},
		{func() { s.Rotate(false) }, 4}, // table 1 is wanted
		{func() { s.Rotate(true) }, 3},
		{func() { s.Rotate(true) }, 3}, // it is the current one
		{func() { s.Add(ev("a8")) }, 4},
		{func() { s.Forget(9) }, 4},
		{func() { s.Forget(1) }, 1},
		{func() { s.Forget(1) }, 1},
		{func() { s.Forget(2) }, 0},
		{func() { s.Rotate(false) }, 0},
	} {
		step.done()
		if s.Len() != step.n {
			t.Fatalf("%d, not %d: %s", s.Len(), step.n, short(s.All()))
		}
	}
	is(t, s, " | | * ")
}

func TestOfNil(t *testing.T) {
	var s *spool.Spools
	for range 2 {
		s.Add(ev("a5"))
		for _, i := range append(elsewhere(), 0, 1, 2) {
			if err := s.AddTo(i, ev("a5")); err != api.ErrNone {
				t.Errorf("AddTo %d: %d", i, err)
			}
			if l := s.List(i); len(l) != 0 {
				t.Errorf("List %d: %s", i, short(l))
			}
		}
		if s.Cur() != 0 || s.Len() != 0 {
			t.Error(s.Cur(), s.Len())
		}
		if len(s.All()) != 0 || len(s.Next()) != 0 {
			t.Error(short(s.All()), short(s.Next()))
		}
		rotates(t, s, true, 0, api.ErrNone)
		rotates(t, s, false, 0, api.ErrNone)
		for _, x := range []int64{deep, -1, 0, 1, 5, far} {
			forgets(t, s, x, 0)
		}
	}
}
