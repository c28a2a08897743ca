package retry_test

import (
	"slices"
	"testing"

	"carrier/api"
	"carrier/retry"
)

// What was due is told, in order, and waits no more; the others do, and the second one tells none.
func TestTake(t *testing.T) {
	for _, text := range texts() {
		for _, x := range append(read(text), item(0, 1, "a")) {
			for _, now := range numbers(x.At) {
				r := made(t, text)
				taken, left := until(rising(read(text)), now), beyond(read(text), now)
				due := r.Due(now)
				if l := r.Take(now); !slices.Equal(l, due) || !slices.Equal(l, events(taken)) {
					t.Fatal(text, now, short(l), short(due))
				}
				has(t, r, left)
				takes(t, r, now, nil)
				has(t, r, left)
				takes(t, r, far, rising(left))
				is(t, r, "")
			}
		}
	}
}

// At the At itself it is taken, and one below it isn't.
func TestTakeAtTimes(t *testing.T) {
	for _, at := range numbers(5) {
		r := filled(t, []retry.Item{item(at, 7, "a")})
		if at > deep {
			takes(t, r, deep, nil)
			takes(t, r, at-1, nil)
		}
		takes(t, r, at, []retry.Item{item(at, 7, "a")})
		takes(t, r, far, nil)
	}
}

// Time by time, each comes once, at its At.
func TestTakeTimeByTime(t *testing.T) {
	for _, text := range texts() {
		r := made(t, text)
		left := rising(read(text))
		for _, now := range []int64{deep, deep + 1, -6, -5, -2, -1, 0, 1, 2, 3, 4, 5, 6, 7, 8, 9, 41, far - 1, far} {
			takes(t, r, now, until(left, now))
			left = beyond(left, now)
			has(t, r, left)
		}
		is(t, r, "")
	}
}

// An earlier time takes none of those that came for a later one, also behind a later Take.
func TestTakeOfAnEarlierTime(t *testing.T) {
	r := made(t, "5:7a")
	takes(t, r, 9, read("5:7a"))
	adds(t, r, change(8), "a", 3, api.OK)
	adds(t, r, change(7), "a", 9, api.OK)
	takes(t, r, 2, nil)
	takes(t, r, 3, read("3:8a"))
	takes(t, r, 8, nil)
	takes(t, r, 9, read("9:7a"))
}

// What was taken may come again, for anyone, at any time: it has one try more then.
func TestTakeAndAddAgain(t *testing.T) {
	for _, at := range numbers() {
		r := retry.New()
		adds(t, r, api.Event{ID: 7}, "a", 5, api.OK)
		e := r.Take(5)[0]
		if e != (api.Event{ID: 7, Owner: "a", Tries: 1}) {
			t.Fatal(e)
		}
		adds(t, r, e, e.Owner, at, api.OK)
		adds(t, r, e, e.Owner, at, api.ErrDup)
		adds(t, r, e, "b", 0, api.OK)
		if l := r.All(); len(l) != 2 || l[0].Event.Tries != 2 || l[1].Event.Tries != 2 {
			t.Fatal(short(l))
		}
		has(t, r, []retry.Item{{At: at, Event: api.Event{ID: 7, Owner: "a", Tries: 2}}, {At: 0, Event: api.Event{ID: 7, Owner: "b", Tries: 2}}})
	}
}

func TestTakeAllAndAddAllAgain(t *testing.T) {
	for _, text := range texts() {
		r := made(t, text)
		for n := range 5 {
			var want []retry.Item
			for _, x := range rising(read(text)) {
				x.Event.Tries += n
				want = append(want, x)
			}
			takes(t, r, far, want)
			for _, x := range want {
				adds(t, r, x.Event, x.Event.Owner, x.At, api.OK)
			}
		}
	}
}

// Just that owner's are gone, and the others stay in their order.
func TestDrop(t *testing.T) {
	for _, text := range texts() {
		for _, owner := range []string{"", "a", "b", "c", "d", "ab", "B", "A", "e", "x", "aa", "a\x00", most("a"), most("a") + "a"} {
			r := made(t, text)
			left := without(read(text), owner)
			want := len(read(text)) - len(left)
			if n := r.Drop(owner); n != want {
				t.Fatal(text, short(owner), n, want)
			}
			if l := r.All(); !slices.Equal(l, rising(left)) {
				t.Fatal(text, short(owner), short(l))
			}
			has(t, r, left)
			drops(t, r, owner, 0)
			has(t, r, left)
			takes(t, r, far, rising(left))
		}
	}
}

// Owners that are alike but for a byte, or for a byte more, are not the same one.
func TestDropOfEachOwner(t *testing.T) {
	all := owners()
	for i, owner := range all {
		var l []retry.Item
		for n := range api.MaxRetries {
			l = append(l, item(int64(n%3), int64(n), all[(i+n)%len(all)]))
		}
		r := filled(t, l)
		drops(t, r, "", 0)
		drops(t, r, all[(i+api.MaxRetries)%len(all)], 0)
		drops(t, r, owner, 1)
		has(t, r, l[1:])
		drops(t, r, owner, 0)
		for n := 1; n < api.MaxRetries; n++ {
			drops(t, r, all[(i+n)%len(all)], 1)
		}
		is(t, r, "")
	}
}

// Whichever of several are an owner's: the first ones, the last ones, each other one, all, none.
func TestDropOfEachChoice(t *testing.T) {
	for chosen := range 1 << 8 {
		var l []retry.Item
		count := 0
		for i := range 8 {
			owner := "b"
			if chosen>>i&1 == 1 {
				owner = "a"
				count++
			}
			l = append(l, item(int64(i/3), int64(9-i), owner))
		}
		r := filled(t, l)
		drops(t, r, "a", count)
		has(t, r, without(l, "a"))
		drops(t, r, "a", 0)
		drops(t, r, "b", 8-count)
		is(t, r, "")
	}
}

// An event's own Owner isn't whom it waits for.
func TestDropOfTheEventsOwner(t *testing.T) {
	r := made(t, "5:7a 6:8b")
	drops(t, r, "x", 0)
	is(t, r, "5:7a 6:8b")
}

// What was dropped may come again, as it is handed in then.
func TestDropAndAddAgain(t *testing.T) {
	r := made(t, "5:7a 5:7b 6:8a")
	drops(t, r, "a", 2)
	takes(t, r, 5, read("5:7b"))
	adds(t, r, change(7), "a", 4, api.OK)
	is(t, r, "4:7a")
	adds(t, r, change(8), "b", 6, api.OK)
	adds(t, r, change(8), "a", 6, api.OK)
	is(t, r, "4:7a 6:8a 6:8b")
}
