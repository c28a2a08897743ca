package retry_test

import (
	"math"
	"strings"
	"testing"

	"carrier/api"
	"carrier/retry"
)

func TestNewHasNone(t *testing.T) {
	is(t, retry.New(), "")
}

// The chapter's example.
func TestExample(t *testing.T) {
	r := retry.New()
	adds(t, r, api.Event{ID: 7}, "a", 5, api.OK)
	if l := r.Due(4); len(l) != 0 {
		t.Error(l)
	}
	if l := r.Due(5); len(l) != 1 || l[0] != (api.Event{ID: 7, Owner: "a", Tries: 1}) {
		t.Error(l)
	}
}

func TestAdd(t *testing.T) {
	r := retry.New()
	adds(t, r, change(7), "b", 5, api.OK)
	is(t, r, "5:7b")
	adds(t, r, change(7), "a", 5, api.OK)
	is(t, r, "5:7a 5:7b")
	adds(t, r, change(3), "b", 5, api.OK)
	is(t, r, "5:3b 5:7a 5:7b")
	adds(t, r, change(9), "b", -5, api.OK)
	is(t, r, "-5:9b 5:3b 5:7a 5:7b")
}

// The item bears the owner that was named, whatever the event's own one was.
func TestItemBearsTheOwnerThatWasNamed(t *testing.T) {
	for _, owner := range owners() {
		for _, own := range append(owners(), "") {
			r := retry.New()
			e := change(7)
			e.Owner = own
			adds(t, r, e, owner, 5, api.OK)
			if l := r.All(); len(l) != 1 || l[0].Event.Owner != owner {
				t.Fatal(short(owner), short(own), short(l))
			}
			has(t, r, []retry.Item{item(5, 7, owner)})
		}
	}
}

// What waits for one owner isn't what waits for the one whom the event names itself.
func TestOwnerOfTheEventDoesNotCount(t *testing.T) {
	r := retry.New()
	e := change(7)
	e.Owner = "b"
	adds(t, r, e, "a", 5, api.OK)
	e.Owner = "a"
	adds(t, r, e, "b", 5, api.OK)
	adds(t, r, e, "b", 6, api.ErrDup)
	e.Owner = ""
	adds(t, r, e, "a", 6, api.ErrDup)
	adds(t, r, e, "", 6, api.ErrArg)
	e.Owner = "a"
	adds(t, r, e, "", 6, api.ErrArg)
	is(t, r, "5:7a 5:7b")
}

func TestTriesIsOneMore(t *testing.T) {
	for _, c := range []struct{ tries, want int }{
		{0, 1}, {1, 2}, {2, 3}, {9, 10}, {127, 128}, {128, 129}, {255, 256}, {1<<16 - 1, 1 << 16}, {1<<30 - 1, 1 << 30},
		{largest - 2, largest - 1}, {largest - 1, largest}, {largest, largest},
		{-1, 0}, {-2, -1}, {-largest, -largest + 1}, {math.MinInt32, math.MinInt32 + 1}, {math.MinInt, math.MinInt + 1},
	} {
		r := retry.New()
		if e := r.Add(api.Event{ID: 7, Tries: c.tries}, "a", 5); e != api.OK {
			t.Fatal(c.tries, e)
		}
		want := api.Event{ID: 7, Owner: "a", Tries: c.want}
		has(t, r, []retry.Item{{At: 5, Event: want}})
		if l := r.Take(5); len(l) != 1 || l[0] != want {
			t.Fatal(c.tries, l)
		}
	}
}

// From the first try on, up to the greatest number, at which it stays.
func TestTriesOfOneThatComesAgainAndAgain(t *testing.T) {
	for _, from := range []int{0, largest - 100} {
		r := retry.New()
		e := api.Event{ID: 7, Tries: from}
		for n := range 200 {
			adds(t, r, e, "a", 5, api.OK)
			e = r.Take(5)[0]
			if want := min(from+n+1, largest); e.Tries != want {
				t.Fatal(from, n, e.Tries)
			}
		}
	}
}

// fields are events each of which has some field on an edge, also such as aren't Right.
func fields() []api.Event {
	plain := change(7)
	var l []api.Event
	with := func(set func(e *api.Event)) {
		e := plain
		set(&e)
		l = append(l, e)
	}
	for _, n := range numbers() {
		with(func(e *api.Event) { e.ID = n })
		with(func(e *api.Event) { e.Tx = n })
		with(func(e *api.Event) { e.Row.Key = n })
		with(func(e *api.Event) { e.Table = int(n) })
	}
	for kind := range 256 {
		with(func(e *api.Event) { e.Kind = byte(kind) })
	}
	for _, text := range append(owners(), "") {
		with(func(e *api.Event) { e.Row.Text = text })
	}
	for table := range api.MaxTables {
		with(func(e *api.Event) { e.Table = table })
	}
	return append(l, plain, api.Event{})
}

func TestAllElseStays(t *testing.T) {
	for _, e := range fields() {
		r := retry.New()
		adds(t, r, e, "a", 5, api.OK)
		want := e
		want.Owner, want.Tries = "a", e.Tries+1
		if l := r.All(); len(l) != 1 || l[0] != (retry.Item{At: 5, Event: want}) {
			t.Fatal(short(e), short(l))
		}
		adds(t, r, e, "b", 4, api.OK)
		adds(t, r, e, "a", 4, api.ErrDup)
		other := want
		other.Owner = "b"
		takes(t, r, 4, []retry.Item{{At: 4, Event: other}})
		takes(t, r, far, []retry.Item{{At: 5, Event: want}})
	}
}

// Each time may be, and is there as it was handed in.
func TestAddAtTimes(t *testing.T) {
	for _, at := range numbers(5) {
		for _, text := range []string{"", "5:8b", "-1:6a 0:7b 1:8a", "5:8a 5:6a 5:7ab 5:7A"} {
			r := made(t, text)
			adds(t, r, change(7), "a", at, api.OK)
			has(t, r, append(read(text), item(at, 7, "a")))
		}
	}
}

// Owners of each length, from one byte on.
func TestAddForOwnersOfEachLength(t *testing.T) {
	for _, letter := range []string{"a", "\x00", "\xff", "é", "\U00010000"} {
		owner := ""
		for range 3 * api.MaxText {
			owner += letter
			adds(t, retry.New(), change(7), owner, 5, api.OK)
			adds(t, made(t, "5:7b 4:7B"), change(7), owner, 5, api.OK)
		}
	}
}

func TestAddForNobody(t *testing.T) {
	for _, text := range texts() {
		r := made(t, text)
		for _, at := range numbers(5) {
			for _, id := range []int64{deep, -1, 0, 1, 7, 9, 41, far} {
				adds(t, r, change(id), "", at, api.ErrArg)
			}
		}
		for _, e := range fields() {
			adds(t, r, e, "", 5, api.ErrArg)
		}
		is(t, r, text)
	}
}

// One with that ID and that Owner waits: whatever all else is, there and in what comes.
func TestAddOfOneThatWaits(t *testing.T) {
	for _, text := range texts() {
		r := made(t, text)
		for _, x := range read(text) {
			for _, at := range numbers(x.At) {
				adds(t, r, x.Event, x.Event.Owner, at, api.ErrDup)
			}
			for _, tries := range []int{math.MinInt, -1, 0, 1, 4, 5, 6, largest - 1, largest, largest + 1, math.MaxInt} {
				e := x.Event
				e.Tries = tries
				adds(t, r, e, e.Owner, x.At, api.ErrDup)
			}
			for _, e := range fields() {
				e.ID = x.Event.ID
				adds(t, r, e, x.Event.Owner, x.At, api.ErrDup)
			}
			for _, own := range append(owners(), "") {
				e := x.Event
				e.Owner = own
				adds(t, r, e, x.Event.Owner, x.At, api.ErrDup)
			}
		}
		is(t, r, text)
	}
}

// Each ID for each owner, behind each other pair that is near to it.
func TestAddOfNearOnes(t *testing.T) {
	ids := []int64{deep, -7, 0, 6, 7, 8, 7 + 1<<8, 7 + 1<<16, 7 + 1<<32, 7 - 1<<32, far}
	for _, there := range owners() {
		for _, owner := range owners() {
			r := filled(t, []retry.Item{item(5, 7, there)})
			want := api.OK
			if owner == there {
				want = api.ErrDup
			}
			adds(t, r, change(7), owner, 5, want)
			drops(t, r, there, 1)
		}
		for _, id := range ids {
			r := filled(t, []retry.Item{item(5, 7, there)})
			want := api.OK
			if id == 7 {
				want = api.ErrDup
			}
			adds(t, r, change(id), there, 5, want)
		}
	}
}

// As many as may be: there is room for each of them, and for no more, till some are gone.
func TestAddIsFull(t *testing.T) {
	if api.MaxRetries != 16 {
		t.Fatal(api.MaxRetries)
	}
	r := retry.New()
	for n := range int64(api.MaxRetries) {
		adds(t, r, change(n/2), "ab"[n%2:n%2+1], n/3, api.OK)
	}
	for _, at := range numbers(5) {
		for _, owner := range []string{"a", "b", "c", most("x"), most("x") + "x", "\xff"} {
			adds(t, r, change(41), owner, at, api.ErrFull)
			adds(t, r, change(-1), owner, at, api.ErrFull)
		}
		adds(t, r, change(0), "c", at, api.ErrFull)
	}
	if l := r.All(); len(l) != 16 {
		t.Fatal(short(l))
	}
}

// fills adds items for an owner till there is room for no more; there must have been room for so many.
func fills(t *testing.T, r *retry.Retries, owner string, room int) {
	t.Helper()
	for n := range room {
		adds(t, r, change(int64(1000+n)), owner, int64(n%3), api.OK)
	}
	adds(t, r, change(int64(1000+room)), owner, 0, api.ErrFull)
	if l := r.All(); len(l) != api.MaxRetries {
		t.Fatal(short(l))
	}
}

func TestRoomBehindTake(t *testing.T) {
	for now := int64(2); now <= 9; now++ {
		r := made(t, full())
		taken := until(rising(read(full())), now)
		takes(t, r, now, taken)
		fills(t, r, "z", len(taken))
	}
}

func TestRoomBehindDrop(t *testing.T) {
	for _, owner := range []string{"", "a", "b", "c", "d", "e"} {
		r := made(t, full())
		room := api.MaxRetries - len(without(read(full()), owner))
		drops(t, r, owner, room)
		fills(t, r, "z", room)
	}
	r := made(t, full())
	for _, owner := range []string{"c", "a", "d", "b"} {
		drops(t, r, owner, 4)
	}
	fills(t, r, "a", api.MaxRetries)
}

// What is refused doesn't take any room.
func TestRoomBehindWhatIsRefused(t *testing.T) {
	for _, text := range texts() {
		r := made(t, text)
		for range 20 {
			adds(t, r, change(41), "", 0, api.ErrArg)
			for _, x := range read(text) {
				adds(t, r, x.Event, x.Event.Owner, 0, api.ErrDup)
			}
		}
		fills(t, r, "z", api.MaxRetries-len(read(text)))
	}
}

// ErrArg is told ahead of ErrDup, and that ahead of ErrFull.
func TestOrderOfErrors(t *testing.T) {
	r := made(t, full())
	for _, x := range read(full()) {
		for _, at := range numbers(x.At) {
			adds(t, r, x.Event, x.Event.Owner, at, api.ErrDup)
			adds(t, r, x.Event, "", at, api.ErrArg)
			adds(t, r, x.Event, "e", at, api.ErrFull)
		}
	}
	adds(t, r, change(41), "", 5, api.ErrArg)
	adds(t, r, change(41), "a", 5, api.ErrFull)
	is(t, r, full())
	r = made(t, "5:7a")
	adds(t, r, change(7), "", 5, api.ErrArg)
	adds(t, r, change(7), "a", 5, api.ErrDup)
	is(t, r, "5:7a")
}

// However many come and go, there is room for as many as may be.
func TestAddOfVeryMany(t *testing.T) {
	r := retry.New()
	for n := range int64(1000) {
		adds(t, r, change(n), owners()[n%5], n, api.OK)
		if n >= api.MaxRetries-1 {
			adds(t, r, change(-1), "a", n, api.ErrFull)
			if n%2 == 0 {
				takes(t, r, n-api.MaxRetries+1, []retry.Item{item(n-api.MaxRetries+1, n-api.MaxRetries+1, owners()[(n-api.MaxRetries+1)%5])})
			} else {
				r.Take(n - api.MaxRetries + 1)
			}
		}
	}
	if l := r.All(); len(l) != api.MaxRetries-1 || l[0].At != 1000-api.MaxRetries+1 {
		t.Fatal(short(l))
	}
}

// The texts of an event may be long: they wait with it, whole.
func TestAddOfLongTexts(t *testing.T) {
	r := retry.New()
	e := change(7)
	e.Row.Text = strings.Repeat("é\x00", 1<<16)
	owner := strings.Repeat("\xff", 1<<16)
	adds(t, r, e, owner, 5, api.OK)
	adds(t, r, e, owner+"\xff", 5, api.OK)
	adds(t, r, e, owner[1:], 5, api.OK)
	adds(t, r, e, owner, 5, api.ErrDup)
	drops(t, r, owner, 1)
	adds(t, r, e, owner, 5, api.OK)
}
