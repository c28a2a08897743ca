package spool_test

import (
	"fmt"
	"math"
	"slices"
	"strconv"
	"strings"
	"testing"

	"carrier/api"
	"carrier/spool"
)

const (
	far  = math.MaxInt64
	deep = math.MinInt64
)

// ev is the event of a word: its transaction's letter (a is 1), and its ID: a5. All else that it has hangs on these.
func ev(word string) api.Event {
	id, err := strconv.ParseInt(word[1:], 10, 64)
	if err != nil {
		panic(err)
	}
	tx := int64(word[0]-'a') + 1
	return api.Event{
		ID: id, Tx: tx, Owner: word[:1], Tries: int(tx % 3), Table: int(tx % 4), Kind: byte(1 + tx%4),
		Row: api.Row{Key: -id, Text: word},
	}
}

// evs are the events of words with blanks between.
func evs(words string) []api.Event {
	var l []api.Event
	for _, word := range strings.Fields(words) {
		l = append(l, ev(word))
	}
	return l
}

// state is what spools must have.
type state struct {
	cur    int
	tables [3][]api.Event
}

// read reads a state: tables with a stroke between, and ahead of the current one's events a star.
func read(text string) state {
	var o state
	tables := strings.Split(text, "|")
	if len(tables) != 3 || strings.Count(text, "*") != 1 {
		panic(text)
	}
	for i, words := range tables {
		if left, ok := strings.CutPrefix(strings.TrimSpace(words), "*"); ok {
			o.cur, words = i, left
		}
		o.tables[i] = evs(words)
	}
	return o
}

// behind is the number of the table behind one.
func behind(i int) int {
	return map[int]int{0: 1, 1: 2, 2: 0}[i]
}

// all is all events, each in its place: ahead of those with a greater ID, behind all others that came into
// its table ahead of it, or stand in a lower one.
func (o state) all() []api.Event {
	var l []api.Event
	for i := range 3 {
		for _, e := range o.tables[i] {
			place := len(l)
			for place > 0 && l[place-1].ID > e.ID {
				place--
			}
			l = slices.Insert(l, place, e)
		}
	}
	return l
}

func (o state) size() int {
	return len(o.tables[0]) + len(o.tables[1]) + len(o.tables[2])
}

// alike tells a fault if the events aren't those, one by one, each with all that it has.
func alike(t *testing.T, what string, got, want []api.Event) {
	t.Helper()
	if !slices.Equal(got, want) {
		t.Fatalf("%s: %s, not %s", what, short(got), short(want))
	}
}

// short is the first ones of a list, with as much of each as there is room for.
func short(l []api.Event) string {
	text := strconv.Itoa(len(l)) + ":"
	for _, e := range l[:min(len(l), 10)] {
		text += fmt.Sprintf(" %.80q", fmt.Sprint(e))
	}
	return text
}

// has tells a fault if any call that just looks tells something else than that state has.
func has(t *testing.T, s *spool.Spools, o state) {
	t.Helper()
	if s.Cur() != o.cur {
		t.Fatalf("Cur: %d, not %d", s.Cur(), o.cur)
	}
	if s.Len() != o.size() {
		t.Fatalf("Len: %d, not %d", s.Len(), o.size())
	}
	for i := range 3 {
		alike(t, "List "+strconv.Itoa(i), s.List(i), o.tables[i])
	}
	for _, i := range []int{-1, 3} {
		alike(t, "List "+strconv.Itoa(i), s.List(i), nil)
	}
	alike(t, "Next", s.Next(), o.tables[behind(o.cur)])
	alike(t, "All", s.All(), o.all())
}

// is tells a fault if spools aren't as a text has them.
func is(t *testing.T, s *spool.Spools, text string) {
	t.Helper()
	has(t, s, read(text))
}

// made is spools as a text has them.
func made(t *testing.T, text string) *spool.Spools {
	t.Helper()
	o := read(text)
	s := spool.New()
	for range o.cur {
		rotates(t, s, false, 2, api.OK)
	}
	for i, events := range o.tables {
		for _, e := range events {
			if err := s.AddTo(i, e); err != api.OK {
				t.Fatalf("AddTo %d: %d", i, err)
			}
		}
	}
	has(t, s, o)
	return s
}

// rotates tells a fault if Rotate tells something else.
func rotates(t *testing.T, s *spool.Spools, free bool, want byte, wantErr api.Errno) {
	t.Helper()
	if n, err := s.Rotate(free); n != want || err != wantErr {
		t.Fatalf("Rotate %v: %d %d, not %d %d", free, n, err, want, wantErr)
	}
}

// forgets tells a fault if Forget tells another count.
func forgets(t *testing.T, s *spool.Spools, x int64, want int) {
	t.Helper()
	if n := s.Forget(x); n != want {
		t.Fatalf("Forget %d: %d, not %d", x, n, want)
	}
}

// elsewhere are numbers of tables that there aren't: near to those that there are, and such as fewer bits
// would make one of them.
func elsewhere() []int {
	l := []int{-1, -2, -3, -4, 3, 4, 5, 6, 9, 127, 128, 255, math.MaxInt32, math.MinInt32, math.MaxInt - 1, math.MaxInt, math.MinInt, math.MinInt + 1}
	for _, bits := range []int{8, 16, 32, 62} {
		for i := range 3 {
			l = append(l, 1<<bits+i, -1<<bits+i)
		}
	}
	return append(l, math.MinInt+2)
}

// anyEvents are events of all fields, most of them not such as may be.
func anyEvents() []api.Event {
	l := []api.Event{{}, {ID: 1}, {Tx: 1}, {Row: api.Row{Key: deep}}}
	texts := []string{"", "a", api.Replica, "\xff\x00", strings.Repeat("t", api.MaxText), strings.Repeat("u", 1<<16)}
	for i, id := range []int64{deep, deep + 1, -1 << 32, -1, 0, 1, 2, 300, 1 << 32, far - 1, far} {
		for j, n := range []int{math.MinInt, -1, 0, 1, 3, 4, 1 << 31, math.MaxInt} {
			for k, kind := range []byte{0, api.Insert, api.Update, api.Delete, api.Truncate, 5, 255} {
				l = append(l, api.Event{
					ID: id, Tx: -id - int64(k%3), Owner: texts[(i+k)%6], Tries: n, Table: -n, Kind: kind,
					Row: api.Row{Key: id + 1, Text: texts[(j+k)%6]},
				})
			}
		}
	}
	return l
}
