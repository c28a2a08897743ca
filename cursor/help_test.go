package cursor_test

import (
	"fmt"
	"math"
	"slices"
	"strconv"
	"strings"
	"testing"

	"carrier/api"
	"carrier/cursor"
)

const (
	far  = math.MaxInt64
	deep = math.MinInt64
)

// one is the consumer of a word: its letters, its Last, and, if it has a batch open, the tick up to which: a3, b5-9.
func one(word string) cursor.Cursor {
	name := strings.TrimRight(word, "0123456789-")
	last, open, _ := strings.Cut(word[len(name):], "-")
	x := cursor.Cursor{Name: name, Last: number(last)}
	if open != "" {
		x.Open = number(open)
	}
	return x
}

// number is that of digits.
func number(digits string) int64 {
	n, err := strconv.ParseInt(digits, 10, 64)
	if err != nil {
		panic(err)
	}
	return n
}

// read are the consumers of words with blanks between.
func read(text string) []cursor.Cursor {
	var l []cursor.Cursor
	for _, word := range strings.Fields(text) {
		l = append(l, one(word))
	}
	return l
}

// below tells whether a name comes ahead of another one, byte by byte.
func below(a, b string) bool {
	for i := range len(b) {
		if i == len(a) || a[i] != b[i] {
			return i == len(a) || a[i] < b[i]
		}
	}
	return false
}

// rising are the same consumers, by their names: each goes to its place among those ahead of it.
func rising(l []cursor.Cursor) []cursor.Cursor {
	var sorted []cursor.Cursor
	for _, x := range l {
		place := len(sorted)
		for place > 0 && below(x.Name, sorted[place-1].Name) {
			place--
		}
		sorted = slices.Insert(sorted, place, x)
	}
	return sorted
}

// with is the place of the consumer of a name; -1, if there isn't one.
func with(l []cursor.Cursor, name string) int {
	for i := range l {
		if l[i].Name == name {
			return i
		}
	}
	return -1
}

// short is a value's text, with as much of it as there is room for.
func short(x any) string {
	return fmt.Sprintf("%.300s", fmt.Sprintf("%q", x))
}

// shown is consumers' text.
func shown(l []cursor.Cursor) string {
	text := strconv.Itoa(len(l)) + ":"
	for _, x := range l {
		text += fmt.Sprintf(" %.60q %d %d;", x.Name, x.Last, x.Open)
	}
	return text
}

// most is a name of as many bytes as may be, all of them alike.
func most(letter string) string {
	return strings.Repeat(letter, api.MaxText)
}

// names are such as may be, most of them near to another one: parts of it, of the same letters, or of the same bytes but one.
func names() []string {
	return []string{
		"\x00", "\x00\x00", "\n", " ", "-1", "10", "9", "A", "B", "a", "a\x00", "a\x01", "a ", "aa", "ab", "b", "ba", "z",
		api.Replica, api.Replica[:6], "\x7f", "\x80", "é", "e\u0301", "\uffff", "\U00010000", "\xfe", "\xff", "\xff\x00", "\xff\xff",
		most("a"), most("a")[1:], most("a")[1:] + "b", "b" + most("a")[1:], most("\x00"), most("\xff"), strings.Repeat("é", 20),
	}
}

// noNames are names of no consumer.
func noNames() []string {
	return []string{
		"", most("a") + "a", most("a") + "\x00", most("\x00") + "\x00", most("\xff") + "\xff", most("a") + most("a"),
		strings.Repeat("é", 20) + "a", strings.Repeat("é", 21), strings.Repeat("é", 40), "a" + strings.Repeat("\U00010000", 10),
		strings.Repeat("a", 255), strings.Repeat("a", 256), strings.Repeat("a", 257), strings.Repeat("a", 1<<16+1),
	}
}

// numbers are such as are on some edge, and all near to those.
func numbers(near ...int64) []int64 {
	l := []int64{deep, deep + 1, -1 << 32, -1<<32 + 1, -2, -1, 0, 1, 2, 3, 41, 1 << 31, 1<<32 - 1, 1 << 32, 1<<32 + 1, far - 1, far}
	for _, n := range near {
		l = append(l, n-1, n, n+1, -n, n+1<<8, n+1<<16, n+1<<32, n-1<<32)
	}
	return l
}

// has tells a fault if any call that just looks tells something else than that there are those, in any order.
func has(t *testing.T, c *cursor.Cursors, l []cursor.Cursor) {
	t.Helper()
	want := rising(l)
	if got := c.All(); !slices.Equal(got, want) {
		t.Fatalf("All: %s, not %s", shown(got), shown(want))
	}
	for _, x := range want {
		if got, ok := c.Get(x.Name); !ok || got != x {
			t.Fatalf("Get(%q): %s, %t, not %s", x.Name, shown([]cursor.Cursor{got}), ok, shown([]cursor.Cursor{x}))
		}
	}
	for _, name := range [6]string{"", "a", "b", "none", "\xff", most("a") + "a"} {
		if got, ok := c.Get(name); with(want, name) < 0 && (ok || got != cursor.Cursor{}) {
			t.Fatalf("Get(%q): %s, %t", name, shown([]cursor.Cursor{got}), ok)
		}
	}
	least := int64(0)
	for i, x := range want {
		if i == 0 || x.Last < least {
			least = x.Last
		}
	}
	if n, ok := c.Least(); n != least || ok != (len(want) > 0) {
		t.Fatalf("Least of %s: %d, %t, not %d", shown(want), n, ok, least)
	}
}

// is tells a fault if there aren't just the consumers of a text.
func is(t *testing.T, c *cursor.Cursors, text string) {
	t.Helper()
	has(t, c, read(text))
}

// registers tells a fault if Register tells another error, or changes something beside it.
func registers(t *testing.T, c *cursor.Cursors, name string, at int64, want api.Errno) {
	t.Helper()
	was := c.All()
	if e := c.Register(name, at); e != want {
		t.Fatalf("Register(%.60q, %d) of %s: %d, not %d", name, at, shown(was), e, want)
	}
	if want == api.OK {
		was = append(was, cursor.Cursor{Name: name, Last: at})
	}
	has(t, c, was)
}

// unregisters tells a fault if Unregister tells another error, or changes something beside it.
func unregisters(t *testing.T, c *cursor.Cursors, name string, want api.Errno) {
	t.Helper()
	was := c.All()
	if e := c.Unregister(name); e != want {
		t.Fatalf("Unregister(%.60q) of %s: %d, not %d", name, shown(was), e, want)
	}
	if want == api.OK {
		i := with(was, name)
		was = append(slices.Clone(was[:i]), was[i+1:]...)
	}
	has(t, c, was)
}

// opens tells a fault if Open tells another error, or changes something beside it.
func opens(t *testing.T, c *cursor.Cursors, name string, next int64, want api.Errno) {
	t.Helper()
	was := c.All()
	if e := c.Open(name, next); e != want {
		t.Fatalf("Open(%.60q, %d) of %s: %d, not %d", name, next, shown(was), e, want)
	}
	if want == api.OK {
		was[with(was, name)].Open = next
	}
	has(t, c, was)
}

// finishes tells a fault if Finish tells anything else, or changes something beside it.
func finishes(t *testing.T, c *cursor.Cursors, name string, want int64, wantErr api.Errno) {
	t.Helper()
	was := c.All()
	if n, e := c.Finish(name); n != want || e != wantErr {
		t.Fatalf("Finish(%.60q) of %s: %d, %d, not %d, %d", name, shown(was), n, e, want, wantErr)
	}
	if wantErr == api.OK {
		was[with(was, name)] = cursor.Cursor{Name: name, Last: want}
	}
	has(t, c, was)
}

// filled is cursors with those consumers, who came in that order.
func filled(t *testing.T, l []cursor.Cursor) *cursor.Cursors {
	t.Helper()
	c := cursor.New()
	for _, x := range l {
		if e := c.Register(x.Name, x.Last); e != api.OK {
			t.Fatalf("Register of %s: %d", shown([]cursor.Cursor{x}), e)
		}
	}
	for _, x := range l {
		if x.Open == 0 {
			continue
		}
		if e := c.Open(x.Name, x.Open); e != api.OK {
			t.Fatalf("Open of %s: %d", shown([]cursor.Cursor{x}), e)
		}
	}
	has(t, c, l)
	return c
}

// made is cursors with the consumers of a text, who came in that order.
func made(t *testing.T, text string) *cursor.Cursors {
	t.Helper()
	return filled(t, read(text))
}

// texts are those of cursors without a consumer, with some, and with as many as may be, with a batch open and with none.
func texts() []string {
	return []string{
		"", "a3", "a3-5", "b7", "a3 b7", "b7 a3", "a3-4 b7", "a3 b7-9", "b7-8 a3-9", "c2 b2-3 a2",
		"a3 b7 c5 d4", "d1 c2 b3 a4", "b3-4 d9-10 a7-8 c5-6", "c7 a7 d7 b7-8", "d4-9223372036854775807 b3 c9223372036854775807 a1",
	}
}
