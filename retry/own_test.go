package retry_test

import (
	"slices"
	"testing"

	"carrier/api"
	"carrier/retry"
)

// overwrite writes into a list, and into the room that it has behind it.
func overwrite[X any](l []X, over X) {
	l = l[:cap(l)]
	for i := range l {
		l[i] = over
	}
}

// over is what is written.
func over() retry.Item {
	return item(-77, 77, "over")
}

// all overwrites what All answers.
func all(r *retry.Retries) {
	overwrite(r.All(), over())
}

// due overwrites what Due answers.
func due(r *retry.Retries, now int64) {
	overwrite(r.Due(now), over().Event)
}

func TestAllMayBeWrittenOver(t *testing.T) {
	for _, text := range texts() {
		r := made(t, text)
		first, second := r.All(), r.All()
		overwrite(first, over())
		if !slices.Equal(second, rising(read(text))) {
			t.Fatal(short(second), text)
		}
		is(t, r, text)
		overwrite(second, over())
		is(t, r, text)
		slices.Reverse(r.All())
		clear(r.All())
		is(t, r, text)
	}
}

func TestDueMayBeWrittenOver(t *testing.T) {
	for _, text := range texts() {
		r := made(t, text)
		for _, now := range append(numbers(), 3, 4, 5, 6, 7) {
			first, second := r.Due(now), r.Due(now)
			was := events(until(rising(read(text)), now))
			overwrite(first, over().Event)
			if !slices.Equal(second, was) {
				t.Fatal(short(second), text, now)
			}
			is(t, r, text)
			overwrite(second, over().Event)
			is(t, r, text)
			slices.Reverse(r.Due(now))
			clear(r.Due(now))
			is(t, r, text)
		}
	}
}

func TestTakeMayBeWrittenOver(t *testing.T) {
	for _, text := range texts() {
		for _, now := range append(numbers(), 3, 4, 5, 6, 7) {
			r := made(t, text)
			told := r.Due(now)
			taken := r.Take(now)
			left := beyond(read(text), now)
			overwrite(taken, over().Event)
			has(t, r, left)
			if !slices.Equal(told, events(until(rising(read(text)), now))) {
				t.Fatal(short(told), text, now)
			}
			overwrite(told, over().Event)
			has(t, r, left)
			if len(left) < api.MaxRetries {
				adds(t, r, change(41), "z", 0, api.OK)
				overwrite(taken, over().Event)
				has(t, r, append(left, item(0, 41, "z")))
			}
		}
	}
}

// A list that was told is the caller's also behind other calls: it may be written over then, too.
func TestListsMayBeWrittenOverLater(t *testing.T) {
	for _, text := range texts() {
		for _, x := range read(text) {
			r := made(t, text)
			items, told := r.All(), r.Due(far)
			r.Drop(x.Event.Owner)
			overwrite(items, over())
			overwrite(told, over().Event)
			left := without(read(text), x.Event.Owner)
			has(t, r, left)
			items, told = r.All(), r.Due(far)
			r.Add(change(x.Event.ID), x.Event.Owner, x.At)
			overwrite(items, over())
			overwrite(told, over().Event)
			left = append(left, x)
			has(t, r, left)
			items, told = r.All(), r.Due(far)
			taken := r.Take(x.At)
			overwrite(items, over())
			overwrite(told, over().Event)
			overwrite(taken, over().Event)
			has(t, r, beyond(left, x.At))
		}
	}
}

// Who appends to a list doesn't write where the next item goes, nor into another list.
func TestRoomBehindListsIsTheCallers(t *testing.T) {
	for _, text := range []string{"", "5:7a", "5:7a 6:8b", "5:7a 6:8b 7:9c", "1:1a 2:2a 3:3a 4:4a 5:5a"} {
		r := made(t, text)
		var items [][]retry.Item
		var told [][]api.Event
		for n := range int64(3) {
			items = append(items, append(r.All(), item(n, n, "y")))
			told = append(told, append(r.Due(far), change(n)), append(r.Due(5), change(n)))
		}
		adds(t, r, change(9), "z", 9, api.OK)
		for n := range int64(3) {
			if l := items[n]; l[len(l)-1] != item(n, n, "y") {
				t.Fatal(n, short(l))
			}
			for _, l := range told[2*n : 2*n+2] {
				if l[len(l)-1] != change(n) {
					t.Fatal(n, short(l))
				}
			}
		}
		has(t, r, append(read(text), item(9, 9, "z")))
		taken := append(r.Take(5), change(41))
		adds(t, r, change(10), "z", 10, api.OK)
		if taken[len(taken)-1] != change(41) {
			t.Fatal(short(taken))
		}
		has(t, r, append(beyond(read(text), 5), item(9, 9, "z"), item(10, 10, "z")))
	}
}

// What was answered stays as it was, whatever is done behind it.
func TestAnswersStay(t *testing.T) {
	for name, done := range map[string]func(r *retry.Retries){
		"Add": func(r *retry.Retries) {
			r.Add(change(41), "A", deep)
			r.Add(change(42), "a", 5)
			r.Add(change(43), "z", far)
		},
		"Take":      func(r *retry.Retries) { r.Take(5) },
		"Take all":  func(r *retry.Retries) { r.Take(far) },
		"Drop":      func(r *retry.Retries) { r.Drop("a"); r.Drop("c") },
		"refused":   func(r *retry.Retries) { r.Add(change(7), "a", deep); r.Add(change(7), "", deep) },
		"looked at": func(r *retry.Retries) { all(r); due(r, 5); due(r, far) },
		"all gone, others come": func(r *retry.Retries) {
			r.Take(far)
			for n := range int64(api.MaxRetries) {
				r.Add(change(100-n), "q", -n)
			}
		},
		"dropped, others come": func(r *retry.Retries) {
			r.Drop("a")
			for n := range int64(api.MaxRetries) {
				r.Add(change(100-n), "q", 5)
			}
		},
	} {
		for _, text := range texts() {
			r := made(t, text)
			items, told, some := r.All(), r.Due(far), r.Due(5)
			done(r)
			want := rising(read(text))
			if !slices.Equal(items, want) || !slices.Equal(told, events(want)) || !slices.Equal(some, events(until(want, 5))) {
				t.Fatal(name, short(items), short(told), short(some), text)
			}
			r = made(t, text)
			taken := r.Take(5)
			done(r)
			if !slices.Equal(taken, events(until(want, 5))) {
				t.Fatal(name, short(taken), text)
			}
		}
	}
}

// An event that was handed in is the caller's: it may be set anew, and stays as it was but for that.
func TestEventsThatWereAddedMayBeWrittenOver(t *testing.T) {
	r := retry.New()
	l := []api.Event{change(7), change(8), change(9)}
	for i := range l {
		if e := r.Add(l[i], "a", 5); e != api.OK || l[i] != change(int64(7+i)) {
			t.Fatal(e, short(l))
		}
		l[i] = over().Event
	}
	is(t, r, "5:7a 5:8a 5:9a")
}

// The bytes that texts were made of may be written over: what waits has them as they were.
func TestTextsMayBeOfBytesThatChange(t *testing.T) {
	r := retry.New()
	p := []byte("abcd")
	for i := range p {
		e := change(7)
		e.Row.Text = string(p[i:])
		adds(t, r, e, string(p[i:i+1]), int64(i), api.OK)
		p[i] = 'z'
	}
	for i, x := range r.All() {
		if x.Event.Owner != "abcd"[i:i+1] || x.Event.Row.Text != "abcd"[i:] {
			t.Fatal(i, short(x))
		}
	}
	drops(t, r, "z", 0)
}

func TestRetriesShareNothing(t *testing.T) {
	a, b := made(t, "5:7a 6:8b"), made(t, "4:8b 5:9c")
	takes(t, a, 5, read("5:7a"))
	is(t, b, "4:8b 5:9c")
	drops(t, b, "b", 1)
	is(t, a, "6:8b")
	adds(t, b, change(8), "b", 1, api.OK)
	adds(t, a, change(9), "c", 1, api.OK)
	is(t, a, "1:9c 6:8b")
	is(t, b, "1:8b 5:9c")
	is(t, retry.New(), "")
}

// What one tells may be handed over to another one.
func TestRetriesMayBeMadeOfWhatAnotherOneTells(t *testing.T) {
	for _, text := range texts() {
		a, b := made(t, text), retry.New()
		for _, x := range a.All() {
			adds(t, b, x.Event, "n"+x.Event.Owner, x.At, api.OK)
		}
		for i, x := range a.All() {
			x.Event.Owner = "n" + x.Event.Owner
			x.Event.Tries++
			if y := b.All()[i]; y != x {
				t.Fatal(text, short(x), short(y))
			}
		}
		is(t, a, text)
		takes(t, a, far, rising(read(text)))
		if l := b.All(); len(l) != len(read(text)) {
			t.Fatal(text, short(l))
		}
	}
}
