package batch_test

import (
	"fmt"
	"math"
	"slices"
	"strconv"
	"strings"
	"testing"

	"carrier/api"
	"carrier/batch"
	"carrier/snap"
	"carrier/txn"
)

const (
	far  = math.MaxInt64
	deep = math.MinInt64
)

func at(most int64, open ...int64) api.Snapshot {
	return api.Snapshot{Max: most, Open: open}
}

// made is a manager whose transactions came to what the letters say, from 1 on: o (open), c (committed), a (aborted).
func made(t *testing.T, letters string) *txn.Manager {
	t.Helper()
	m := txn.New()
	for i, letter := range letters {
		x, e := m.Begin()
		if x != int64(i)+1 || e != api.OK {
			t.Fatal(letters, x, e)
		}
		switch letter {
		case 'c':
			e = m.Commit(x)
		case 'a':
			e = m.Abort(x)
		}
		if e != api.OK {
			t.Fatal(letters, x, e)
		}
	}
	return m
}

// letter is what became of a transaction, by the letters of which a manager was made; of others a blank.
func letter(letters string, x int64) byte {
	if x < 1 || x > int64(len(letters)) {
		return ' '
	}
	return letters[x-1]
}

// evs are the events of words with blanks between: an ID, a point, a transaction, and the Owner behind it, if there
// is one. By their Row's Text no two of them are alike.
func evs(words string) []api.Event {
	var l []api.Event
	for i, word := range strings.Fields(words) {
		id, of, _ := strings.Cut(word, ".")
		owner := strings.TrimLeft(of, "-0123456789")
		e := api.Event{ID: number(id), Tx: number(strings.TrimSuffix(of, owner)), Owner: owner}
		e.Tries, e.Table, e.Kind = i%3, i%4, byte(1+i%4)
		e.Row = api.Row{Key: -e.ID, Text: word + " " + strconv.Itoa(i)}
		l = append(l, e)
	}
	return l
}

func number(text string) int64 {
	n, err := strconv.ParseInt(text, 10, 64)
	if err != nil {
		panic(err)
	}
	return n
}

// chosen are those of l that stand at these places.
func chosen(l []api.Event, places ...int) []api.Event {
	var some []api.Event
	for _, i := range places {
		some = append(some, l[i])
	}
	return some
}

// question is what Of is asked beside the events.
type question struct {
	m        *txn.Manager
	from, to api.Snapshot
	owner    string
}

// tells tells a fault if Of doesn't tell just the events at these places, in that order.
func (q question) tells(t *testing.T, l []api.Event, places ...int) {
	t.Helper()
	alike(t, batch.Of(l, q.m, q.from, q.to, q.owner), chosen(l, places...))
}

// needs tells a fault if Needs tells something else, or Free doesn't tell the contrary of that event alone.
func needs(t *testing.T, e api.Event, m *txn.Manager, s []api.Snapshot, want bool) {
	t.Helper()
	if got := batch.Needs(e, m, s); got != want {
		t.Fatalf("Needs of %.80q, %.200s: %t", fmt.Sprint(e), fmt.Sprint(s), got)
	}
	frees(t, []api.Event{e}, m, s, !want)
}

// frees tells a fault if Free tells something else.
func frees(t *testing.T, l []api.Event, m *txn.Manager, s []api.Snapshot, want bool) {
	t.Helper()
	if got := batch.Free(l, m, s); got != want {
		t.Fatalf("Free of %s, %.200s: %t", short(l), fmt.Sprint(s), got)
	}
}

// alike tells a fault if the events aren't those, one by one, each with all that it has.
func alike(t *testing.T, got, want []api.Event) {
	t.Helper()
	if !slices.Equal(got, want) {
		t.Fatalf("%s, not %s", short(got), short(want))
	}
}

// short is the first ones of a list, with as much of each as there is room for.
func short(l []api.Event) string {
	text := strconv.Itoa(len(l)) + ":"
	for _, e := range l[:min(len(l), 10)] {
		text += fmt.Sprintf(" %.80q", fmt.Sprint(e))
	}
	return text
}

// saw tells whether a snapshot, Right or not, sees a transaction: it asks each number alone.
func saw(s api.Snapshot, x int64) bool {
	for _, o := range s.Open {
		if o == x {
			return false
		}
	}
	return 1 <= x && x <= s.Max-1 && s.Max > deep
}

// right are all snapshots that are Right up to that Max.
func right(most int64) []api.Snapshot {
	var l []api.Snapshot
	for m := int64(1); m <= most; m++ {
		for set := range 1 << (m - 1) {
			s := at(m)
			for x := int64(1); x < m; x++ {
				if set>>(x-1)&1 == 1 {
					s.Open = append(s.Open, x)
				}
			}
			l = append(l, s)
		}
	}
	return l
}

// anyone are snapshots of all kinds, most of them not Right.
func anyone() []api.Snapshot {
	l := []api.Snapshot{{}}
	for _, m := range []int64{deep, deep + 1, -1 << 32, -1, 0, 1, 2, 5, 9, api.MaxTxid, 1 << 32, far - 1, far} {
		for _, open := range [][]int64{
			nil, {}, {1}, {4}, {5}, {0}, {-1}, {1, 4}, {2, 2}, {4, 2}, {3, 3, 1, 1}, {6, 9}, {0, 1, 2}, {-3, 3, -3},
			{far}, {far - 1}, {deep}, {deep, far}, {far, deep}, {far, 2, deep}, {1 << 32, 1<<32 + 1}, long(300),
		} {
			l = append(l, at(m, open...))
		}
	}
	return l
}

// long is a list of n numbers, neither rising nor unlike.
func long(n int) []int64 {
	l := make([]int64, n)
	for i := range l {
		l[i] = int64(i*7919%1000) - 100
	}
	return l
}

// anyEvents are events of all fields, most of them not such as may be.
func anyEvents() []api.Event {
	l := []api.Event{{}, {ID: 1}, {Tx: 1}, {Tx: 2, Row: api.Row{Key: deep}}}
	texts := []string{"", "a", api.Replica, "\xff\x00", strings.Repeat("t", api.MaxText), strings.Repeat("u", 1<<12)}
	for i, id := range []int64{deep, deep + 1, -1 << 32, -1, 0, 1, 2, 300, 1 << 32, far - 1, far} {
		for j, x := range []int64{deep, -1, 0, 1, 2, 3, 4, 5, 6, 1<<32 + 1, far} {
			for k, kind := range []byte{0, api.Insert, api.Truncate, 5, 255} {
				n := []int{math.MinInt, -1, 0, 1, 3, 4, 1 << 31, math.MaxInt}[(i+j+k)%8]
				l = append(l, api.Event{
					ID: id, Tx: x, Owner: texts[(i+j+k)%6], Tries: n, Table: -n, Kind: kind,
					Row: api.Row{Key: id + 1, Text: texts[(j+k)%6]},
				})
			}
		}
	}
	return l
}

// kept is a snapshot with an Open of its own, as it is now.
func kept(s api.Snapshot) api.Snapshot {
	s.Open = slices.Clone(s.Open)
	return s
}

// same tells whether two lists of snapshots are alike.
func same(a, b []api.Snapshot) bool {
	return slices.EqualFunc(a, b, snap.Same)
}
