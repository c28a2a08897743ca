package retry_test

import (
	"math"
	"testing"

	"carrier/api"
	"carrier/retry"
)

// anyRetries are makers of retries of all kinds, by names.
func anyRetries(t *testing.T) map[string]func() *retry.Retries {
	all := map[string]func() *retry.Retries{
		"nil":       func() *retry.Retries { return nil },
		"just made": retry.New,
		"all taken": func() *retry.Retries {
			r := made(t, full())
			r.Take(far)
			return r
		},
		"all dropped": func() *retry.Retries {
			r := made(t, full())
			for _, x := range r.All() {
				r.Drop(x.Event.Owner)
			}
			return r
		},
		"any fields": func() *retry.Retries {
			r := retry.New()
			for i, e := range odd() {
				r.Add(e, owners()[i%len(owners())], numbers()[i%len(numbers())])
			}
			return r
		},
	}
	for _, text := range texts() {
		all["of "+text] = func() *retry.Retries { return made(t, text) }
	}
	return all
}

// odd are events of any fields, most of which aren't Right.
func odd() []api.Event {
	var l []api.Event
	for i, tries := range []int{math.MinInt, math.MinInt32, -1, 0, 1, largest - 1, largest, largest + 1, 1 << 32, math.MaxInt - 1, math.MaxInt} {
		n := numbers()[i]
		l = append(l, api.Event{ID: n, Tx: n, Owner: owners()[i], Tries: tries, Table: int(n), Kind: byte(i * 25), Row: api.Row{Key: n, Text: owners()[len(owners())-1-i]}})
	}
	return append(l, api.Event{}, change(7), change(deep), change(far))
}

// Of any retries, whatever they are told, each call ends, and tells what it may.
func TestAnyCall(t *testing.T) {
	for kind, made := range anyRetries(t) {
		for i, owner := range append(owners(), "") {
			r := made()
			for j, e := range odd() {
				at := numbers()[(i+j)%len(numbers())]
				was := len(r.All())
				want := mayAdd(r, e, owner)
				if got := r.Add(e, owner, at); got != want {
					t.Fatal(kind, short(owner), short(e), at, got, want)
				}
				if want == api.OK {
					was++
				}
				if n := len(r.All()); n != was || n > api.MaxRetries || len(r.Due(far)) != n {
					t.Fatal(kind, short(owner), short(e), at, n, was)
				}
				now := numbers()[(i+3*j)%len(numbers())]
				due := len(r.Due(now))
				if n := len(r.Take(now)); n != due || len(r.Due(now)) != 0 || len(r.All()) != was-due {
					t.Fatal(kind, short(owner), short(e), now, n, due)
				}
				if n := len(r.All()); j%3 == 0 && r.Drop(owner) != n-len(r.All()) {
					t.Fatal(kind, short(owner), short(e), n)
				}
			}
		}
	}
}

// mayAdd is what Add tells.
func mayAdd(r *retry.Retries, e api.Event, owner string) api.Errno {
	if r == nil {
		return api.ErrNone
	}
	if owner == "" {
		return api.ErrArg
	}
	for _, x := range r.All() {
		if x.Event.ID == e.ID && x.Event.Owner == owner {
			return api.ErrDup
		}
	}
	if len(r.All()) == api.MaxRetries {
		return api.ErrFull
	}
	return api.OK
}

// Whatever the fields are: but for the Owner and the Tries all of them are those that were handed in.
func TestAnyEvent(t *testing.T) {
	for _, e := range odd() {
		for _, owner := range owners() {
			r := retry.New()
			if got := r.Add(e, owner, 5); got != api.OK {
				t.Fatal(short(e), short(owner), got)
			}
			l := r.All()
			if len(l) != 1 || l[0].Event.Owner != owner {
				t.Fatal(short(e), short(owner), short(l))
			}
			l[0].Event.Owner, l[0].Event.Tries = e.Owner, e.Tries
			if l[0] != (retry.Item{At: 5, Event: e}) {
				t.Fatal(short(e), short(owner), short(l))
			}
		}
	}
}
