package cursor_test

import (
	"testing"

	"carrier/api"
	"carrier/cursor"
)

// anyCursors are makers of cursors of all kinds, by names.
func anyCursors(t *testing.T) map[string]func() *cursor.Cursors {
	all := map[string]func() *cursor.Cursors{
		"nil":       func() *cursor.Cursors { return nil },
		"just made": cursor.New,
		"all gone": func() *cursor.Cursors {
			c := made(t, "a3 b7-8 c5 d4-5")
			for _, x := range c.All() {
				unregisters(t, c, x.Name, api.OK)
			}
			return c
		},
		"any bytes": func() *cursor.Cursors {
			return filled(t, []cursor.Cursor{{Name: "\xff\x00", Last: 1, Open: far}, {Name: "\x00", Last: far}, {Name: most("\xff"), Last: far - 1, Open: far}, {Name: "\n", Last: 1}})
		},
	}
	for _, text := range texts() {
		all["of "+text] = func() *cursor.Cursors { return made(t, text) }
	}
	return all
}

// Of any cursors, whatever they are told, each call ends, and tells what it may.
func TestAnyCall(t *testing.T) {
	for kind, made := range anyCursors(t) {
		for _, name := range append(names(), noNames()...) {
			c := made()
			for _, n := range numbers(3, 5) {
				was, there := c.Get(name)
				opened := c.Open(name, n)
				if want := mayOpen(was, there, n); opened != want {
					t.Fatal(kind, short(name), n, opened, want)
				}
				is, finished := c.Finish(name)
				if (finished == api.OK) != (opened == api.OK || was.Open > 0) || finished == api.OK && is <= was.Last {
					t.Fatal(kind, short(name), n, is, finished)
				}
				e := c.Register(name, n)
				switch {
				case c == nil && e != api.ErrNone, c != nil && n < 1 && e != api.ErrArg, there && n > 0 && e != api.ErrDup:
					t.Fatal(kind, short(name), n, e)
				case e == api.OK:
					there = true
				}
				if all := c.All(); len(all) > api.MaxConsumers || (with(all, name) >= 0) != there {
					t.Fatal(kind, short(name), n, shown(all))
				}
				if least, ok := c.Least(); ok != (len(c.All()) > 0) || ok != (least > 0) {
					t.Fatal(kind, short(name), n, least, ok)
				}
				if n%3 == 0 && (c.Unregister(name) == api.OK) != there {
					t.Fatal(kind, short(name), n)
				}
			}
		}
	}
}

// mayOpen is what Open tells of a consumer.
func mayOpen(was cursor.Cursor, there bool, n int64) api.Errno {
	switch {
	case !there:
		return api.ErrNone
	case was.Open > 0:
		return api.ErrState
	case n <= was.Last:
		return api.ErrArg
	}
	return api.OK
}
