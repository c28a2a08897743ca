package retry_test

import (
	"fmt"
	"math"
	"slices"
	"strconv"
	"strings"
	"testing"

	"carrier/api"
	"carrier/retry"
)

const (
	far     = math.MaxInt64
	deep    = math.MinInt64
	largest = 1<<31 - 1 // the greatest Tries
)

// change is an event with that ID, as it is handed in: its Owner isn't the one for whom it comes again.
func change(id int64) api.Event {
	return api.Event{ID: id, Tx: 300, Owner: "x", Tries: 4, Table: 2, Kind: api.Update, Row: api.Row{Key: -7, Text: "t"}}
}

// item is what waits when a change was added.
func item(at, id int64, owner string) retry.Item {
	e := change(id)
	e.Owner, e.Tries = owner, 5
	return retry.Item{At: at, Event: e}
}

// one is the item of a word: its At, the ID, the letters of its Owner: 5:7a.
func one(word string) retry.Item {
	at, rest, _ := strings.Cut(word, ":")
	id := strings.TrimRight(rest, "abcdefghijklmnopqrstuvwxyzABCDEFGHIJKLMNOPQRSTUVWXYZ")
	return item(number(at), number(id), rest[len(id):])
}

// number is that of digits.
func number(digits string) int64 {
	n, err := strconv.ParseInt(digits, 10, 64)
	if err != nil {
		panic(err)
	}
	return n
}

// read are the items of words with blanks between.
func read(text string) []retry.Item {
	var l []retry.Item
	for _, word := range strings.Fields(text) {
		l = append(l, one(word))
	}
	return l
}

// before tells whether a text comes ahead of another one, byte by byte.
func before(a, b string) bool {
	for i := range len(b) {
		if i == len(a) || a[i] != b[i] {
			return i == len(a) || a[i] < b[i]
		}
	}
	return false
}

// below tells whether an item is told ahead of another one.
func below(a, b retry.Item) bool {
	if a.At != b.At {
		return a.At < b.At
	}
	if a.Event.ID != b.Event.ID {
		return a.Event.ID < b.Event.ID
	}
	return before(a.Event.Owner, b.Event.Owner)
}

// rising are the same items in order: each goes to its place among those ahead of it.
func rising(l []retry.Item) []retry.Item {
	var sorted []retry.Item
	for _, x := range l {
		place := len(sorted)
		for place > 0 && below(x, sorted[place-1]) {
			place--
		}
		sorted = slices.Insert(sorted, place, x)
	}
	return sorted
}

// of are those items of which yes says so.
func of(l []retry.Item, yes func(x retry.Item) bool) []retry.Item {
	var some []retry.Item
	for _, x := range l {
		if yes(x) {
			some = append(some, x)
		}
	}
	return some
}

// until are the items whose At isn't above now.
func until(l []retry.Item, now int64) []retry.Item {
	return of(l, func(x retry.Item) bool { return x.At <= now })
}

// beyond are the others.
func beyond(l []retry.Item, now int64) []retry.Item {
	return of(l, func(x retry.Item) bool { return x.At > now })
}

// without are the items that aren't that owner's.
func without(l []retry.Item, owner string) []retry.Item {
	return of(l, func(x retry.Item) bool { return x.Event.Owner != owner })
}

// events are those of items.
func events(l []retry.Item) []api.Event {
	var some []api.Event
	for _, x := range l {
		some = append(some, x.Event)
	}
	return some
}

// short is a value's text, with as much of it as there is room for.
func short(x any) string {
	return fmt.Sprintf("%.900s", fmt.Sprintf("%#v", x))
}

// most is a text of as many bytes as a name may have, all of them alike.
func most(letter string) string {
	return strings.Repeat(letter, api.MaxText)
}

// owners are of one byte, of MaxText, of more, of any bytes, most of them near to another one.
func owners() []string {
	return []string{
		"\x00", "\x00\x00", "\n", " ", "10", "9", "A", "B", "a", "a\x00", "a ", "aa", "ab", "b", "ba", "x",
		api.Replica, api.Replica[:6], "\x7f", "\x80", "é", "e\u0301", "\uffff", "\U00010000", "\xfe", "\xff", "\xff\x00", "\xff\xff",
		most("a"), most("a")[1:], most("a")[1:] + "b", most("a") + "a", most("a") + "\x00", most("\x00"), most("\xff"), most("\xff") + "\xff",
		strings.Repeat("a", 255), strings.Repeat("a", 256), strings.Repeat("a", 257), strings.Repeat("é", 129),
	}
}

// numbers are such as are on some edge, and all near to those.
func numbers(near ...int64) []int64 {
	l := []int64{deep, deep + 1, -1<<32 - 1, -1 << 32, -1<<32 + 1, -2, -1, 0, 1, 2, 41, 1<<31 - 1, 1 << 31, 1<<32 - 1, 1 << 32, 1<<32 + 1, far - 1, far}
	for _, n := range near {
		l = append(l, n-1, n, n+1, -n, n+1<<8, n+1<<16, n+1<<32, n-1<<32)
	}
	return l
}

// has tells a fault if any call that just looks tells something else than that those wait, in any order.
func has(t *testing.T, r *retry.Retries, l []retry.Item) {
	t.Helper()
	want := rising(l)
	if got := r.All(); !slices.Equal(got, want) {
		t.Fatalf("All: %s, not %s", short(got), short(want))
	}
	dues(t, r, deep, want)
	dues(t, r, far, want)
	for i, x := range want {
		if i > 0 && x.At == want[i-1].At {
			continue
		}
		dues(t, r, x.At, want)
		if x.At > deep {
			dues(t, r, x.At-1, want)
		}
	}
}

// dues tells a fault if Due tells something else than it does where just those items wait, which are in order.
func dues(t *testing.T, r *retry.Retries, now int64, all []retry.Item) {
	t.Helper()
	if got, want := r.Due(now), events(until(all, now)); !slices.Equal(got, want) {
		t.Fatalf("Due(%d): %s, not %s", now, short(got), short(want))
	}
}

// is tells a fault if not just the items of a text wait.
func is(t *testing.T, r *retry.Retries, text string) {
	t.Helper()
	has(t, r, read(text))
}

// adds tells a fault if Add tells another error, or changes something beside it; the item bears the owner, and one try more.
func adds(t *testing.T, r *retry.Retries, e api.Event, owner string, at int64, want api.Errno) {
	t.Helper()
	was := r.All()
	if got := r.Add(e, owner, at); got != want {
		t.Fatalf("Add(%s, %.60q, %d) of %s: %d, not %d", short(e), owner, at, short(was), got, want)
	}
	if want == api.OK {
		e.Owner = owner
		if e.Tries != largest {
			e.Tries++
		}
		was = append(was, retry.Item{At: at, Event: e})
	}
	has(t, r, was)
}

// takes tells a fault if Take tells anything else than those items' events, or if all others don't wait behind it.
func takes(t *testing.T, r *retry.Retries, now int64, want []retry.Item) {
	t.Helper()
	was := r.All()
	if got := r.Take(now); !slices.Equal(got, events(want)) {
		t.Fatalf("Take(%d) of %s: %s, not %s", now, short(was), short(got), short(events(want)))
	}
	has(t, r, of(was, func(x retry.Item) bool { return !slices.Contains(want, x) }))
}

// drops tells a fault if Drop tells another number, or if something else goes than that owner's.
func drops(t *testing.T, r *retry.Retries, owner string, want int) {
	t.Helper()
	was := r.All()
	if got := r.Drop(owner); got != want {
		t.Fatalf("Drop(%.60q) of %s: %d, not %d", owner, short(was), got, want)
	}
	if left := r.All(); len(was)-len(left) != want {
		t.Fatalf("Drop(%.60q) of %s: %s", owner, short(was), short(left))
	}
	has(t, r, without(was, owner))
}

// filled is retries with those items, who came in that order.
func filled(t *testing.T, l []retry.Item) *retry.Retries {
	t.Helper()
	r := retry.New()
	for _, x := range l {
		e := x.Event
		e.Owner = "x"
		e.Tries--
		if got := r.Add(e, x.Event.Owner, x.At); got != api.OK {
			t.Fatalf("Add of %s: %d", short(x), got)
		}
	}
	has(t, r, l)
	return r
}

// made is retries with the items of a text, who came in that order.
func made(t *testing.T, text string) *retry.Retries {
	t.Helper()
	return filled(t, read(text))
}

// full are as many items as may wait, for four owners, some at one time.
func full() string {
	var words []string
	for n := range api.MaxRetries {
		words = append(words, fmt.Sprintf("%d:%d%s", 3+n/3, 20-n, "abcd"[n%4:n%4+1]))
	}
	return strings.Join(words, " ")
}

// texts are those of retries without an item, with some, and with as many as may be, of one owner and of several.
func texts() []string {
	return []string{
		"", "5:7a", "0:1b", "-5:7a", "5:7a 5:7b", "5:7b 5:7a", "5:7a 6:7b", "6:7a 5:7b", "5:8a 5:7a", "5:7a 6:8a 7:9a", "9:1c 8:2b 7:3a 7:3b 7:2c",
		"-9223372036854775808:9a 9223372036854775807:1a 0:5b", "-1:4a 1:4b 0:4c -2:4ab 2:4B", "5:-1a 5:0a 5:1a 5:-9223372036854775808a 5:9223372036854775807a",
		full(),
	}
}
