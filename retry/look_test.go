package retry_test

import (
	"slices"
	"testing"

	"carrier/api"
	"carrier/retry"
)

// orders are all lists of those items, each once, in each order.
func orders(l []retry.Item) [][]retry.Item {
	if len(l) == 0 {
		return [][]retry.Item{nil}
	}
	var all [][]retry.Item
	for i, first := range l {
		left := append(slices.Clone(l[:i]), l[i+1:]...)
		for _, behind := range orders(left) {
			all = append(all, append([]retry.Item{first}, behind...))
		}
	}
	return all
}

// Whichever came first: by the At, of one At by the ID, of one ID by the Owner.
func TestAllIsInOrder(t *testing.T) {
	for _, text := range []string{
		"-1:9a 0:8a 1:7a 2:6a 3:5a", "5:1a 5:2a 5:3a 5:4a 5:5a", "5:7A 5:7B 5:7a 5:7aa 5:7ab 5:7b", "4:2b 4:3a 5:1a 5:1b 5:2a 6:0a",
		"-9223372036854775808:9z -9223372036854775807:8z -1:7z 0:6z 9223372036854775806:5z 9223372036854775807:4z",
		"5:-9223372036854775808z 5:-1y 5:0x 5:1w 5:9223372036854775807v", "-5:7b -4:7a 4:8b 5:8a",
	} {
		want := read(text)
		for _, came := range orders(want) {
			r := filled(t, came)
			if l := r.All(); !slices.Equal(l, want) {
				t.Fatal(short(came), short(l))
			}
			if l := r.Due(far); !slices.Equal(l, events(want)) {
				t.Fatal(short(came), short(l))
			}
			takes(t, r, far, want)
		}
	}
}

// By bytes: one of each length is told ahead of all that begin with it.
func TestAllIsByBytesOfOwners(t *testing.T) {
	names := []string{"\x00", "\x00\x00", "10", "9", "A", "a", "a\x00", "ab", "b", "é", "\uffff", "\U00010000", "\xff", most("\xff") + "\xff"}
	for i := range names[1:] {
		if !before(names[i], names[i+1]) {
			t.Fatal(i, short(names))
		}
	}
	for a := range names {
		for b := range names {
			for c := range names {
				if a == b || b == c || a == c {
					continue
				}
				r := retry.New()
				places := []int{a, b, c}
				for _, i := range places {
					adds(t, r, change(7), names[i], 5, api.OK)
				}
				slices.Sort(places)
				for i, x := range r.All() {
					if x != item(5, 7, names[places[i]]) {
						t.Fatal(a, b, c, short(r.All()))
					}
				}
			}
		}
	}
}

// Of each three of many items, each order.
func TestOrderOfEachThree(t *testing.T) {
	var pool []retry.Item
	for _, at := range []int64{deep, -1, 0, far} {
		for _, id := range []int64{deep, 6, 7, far} {
			for _, owner := range []string{"a", "b"} {
				pool = append(pool, item(at, id, owner))
			}
		}
	}
	same := func(x, y retry.Item) bool { return x.Event.ID == y.Event.ID && x.Event.Owner == y.Event.Owner }
	for _, x := range pool {
		for _, y := range pool {
			for _, z := range pool {
				if same(x, y) || same(y, z) || same(x, z) {
					continue
				}
				came := []retry.Item{x, y, z}
				if l := filled(t, came).All(); !slices.Equal(l, rising(came)) {
					t.Fatal(short(came), short(l))
				}
			}
		}
	}
}

// What an event has beside its ID and its Owner doesn't count for the order.
func TestAllElseDoesNotCountForTheOrder(t *testing.T) {
	var want []retry.Item
	for n := range int64(api.MaxRetries) {
		e := api.Event{ID: n + 1, Tx: 20 - n, Owner: "ba"[n%2 : n%2+1], Tries: int(20 - n), Table: int(-n), Kind: byte(20 - n), Row: api.Row{Key: -n, Text: "zyxwvutsrqponmlkj"[n : n+1]}}
		want = append(want, retry.Item{At: 5, Event: e})
	}
	back := slices.Clone(want)
	slices.Reverse(back)
	for _, came := range [][]retry.Item{want, back} {
		if l := filled(t, came).All(); !slices.Equal(l, want) {
			t.Fatal(short(came), short(l))
		}
	}
}

// All, and what is due at 5, behind each of the other calls.
func TestAllBehindEachCall(t *testing.T) {
	r := retry.New()
	for i, step := range []struct {
		done func()
		want string
	}{
		{func() {}, ""},
		{func() { r.Take(far) }, ""},
		{func() { r.Drop("a") }, ""},
		{func() { r.Add(change(7), "b", 5) }, "5:7b"},
		{func() { r.Add(change(7), "a", 6) }, "5:7b 6:7a"},
		{func() { r.Add(change(7), "a", 4) }, "5:7b 6:7a"},
		{func() { r.Add(change(7), "", 4) }, "5:7b 6:7a"},
		{func() { r.Add(change(8), "a", -4) }, "-4:8a 5:7b 6:7a"},
		{func() { r.Add(change(2), "c", 5) }, "-4:8a 5:2c 5:7b 6:7a"},
		{func() { r.Due(far) }, "-4:8a 5:2c 5:7b 6:7a"},
		{func() { r.All() }, "-4:8a 5:2c 5:7b 6:7a"},
		{func() { r.Take(-5) }, "-4:8a 5:2c 5:7b 6:7a"},
		{func() { r.Take(4) }, "5:2c 5:7b 6:7a"},
		{func() { r.Drop("z") }, "5:2c 5:7b 6:7a"},
		{func() { r.Drop("b") }, "5:2c 6:7a"},
		{func() { r.Add(change(7), "b", 0) }, "0:7b 5:2c 6:7a"},
		{func() { r.Add(change(2), "c", 0) }, "0:7b 5:2c 6:7a"},
		{func() { r.Take(5) }, "6:7a"},
		{func() { r.Add(change(2), "c", 6) }, "6:2c 6:7a"},
		{func() { r.Add(change(9), "a", 7) }, "6:2c 6:7a 7:9a"},
		{func() { r.Drop("a") }, "6:2c"},
		{func() { r.Drop("") }, "6:2c"},
		{func() { r.Drop("c") }, ""},
		{func() { r.Drop("c") }, ""},
	} {
		step.done()
		want := read(step.want)
		if l := r.All(); !slices.Equal(l, want) {
			t.Fatal(i, short(l), step.want)
		}
		if l := r.Due(5); !slices.Equal(l, events(until(want, 5))) {
			t.Fatal(i, short(l), step.want)
		}
		is(t, r, step.want)
	}
}

// At the At itself, one below, and one above; at the least and the greatest number that there are.
func TestDue(t *testing.T) {
	for _, at := range numbers(5) {
		r := filled(t, []retry.Item{item(at, 7, "a")})
		for _, now := range numbers(at, 5) {
			var want []api.Event
			if at <= now {
				want = events([]retry.Item{item(at, 7, "a")})
			}
			if l := r.Due(now); !slices.Equal(l, want) {
				t.Fatal(at, now, short(l))
			}
		}
	}
}

// Just those whose At isn't above now, in order: of each two, and among others.
func TestDueOfSeveral(t *testing.T) {
	for _, a := range numbers() {
		for _, b := range numbers() {
			want := rising([]retry.Item{item(a, 7, "a"), item(b, 7, "b"), item(b, 6, "a"), item(0, 9, "c")})
			r := filled(t, want)
			for _, now := range numbers(a, b) {
				dues(t, r, now, want)
			}
			has(t, r, want)
		}
	}
}

func TestDueOfTexts(t *testing.T) {
	for _, text := range texts() {
		r := made(t, text)
		want := rising(read(text))
		for _, x := range want {
			for _, now := range numbers(x.At) {
				dues(t, r, now, want)
			}
		}
		is(t, r, text)
	}
}

// Looking changes nothing, however often one looks.
func TestLookingChangesNothing(t *testing.T) {
	for _, text := range texts() {
		r := made(t, text)
		want := rising(read(text))
		for range 3 {
			for _, now := range numbers(5) {
				for range 3 {
					dues(t, r, now, want)
				}
			}
			is(t, r, text)
		}
	}
}

func TestOfNil(t *testing.T) {
	var r *retry.Retries
	for range 2 {
		for _, owner := range append(owners(), "") {
			for _, at := range numbers() {
				adds(t, r, change(7), owner, at, api.ErrNone)
			}
			for _, e := range fields() {
				adds(t, r, e, owner, 5, api.ErrNone)
			}
			drops(t, r, owner, 0)
		}
		for _, now := range numbers() {
			if l := r.Due(now); len(l) > 0 {
				t.Fatal(now, short(l))
			}
			takes(t, r, now, nil)
		}
		if l := r.All(); len(l) > 0 {
			t.Fatal(short(l))
		}
	}
}
