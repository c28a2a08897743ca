package cursor_test

import (
	"testing"

	"carrier/api"
	"carrier/cursor"
)

// The chapter's example.
func TestExample(t *testing.T) {
	c := cursor.New()
	registers(t, c, "a", 3, api.OK)
	opens(t, c, "a", 5, api.OK)
	finishes(t, c, "a", 5, api.OK)
	is(t, c, "a5")
}

// Just above Last, and far above: each number above it may be; it itself and those below it may not.
func TestOpen(t *testing.T) {
	for _, last := range []int64{1, 2, 3, 41, 1<<32 - 1, 1 << 32, 1<<32 + 1, far - 2, far - 1, far} {
		for _, next := range numbers(last) {
			for _, others := range []string{"", "b3", "A3-4 c1", "A9 b9-10 c9"} {
				was := append(read(others), cursor.Cursor{Name: "a", Last: last})
				c := filled(t, was)
				if next <= last {
					opens(t, c, "a", next, api.ErrArg)
					finishes(t, c, "a", 0, api.ErrState)
					continue
				}
				opens(t, c, "a", next, api.OK)
				was[len(was)-1].Open = next
				has(t, c, was)
				finishes(t, c, "a", next, api.OK)
			}
		}
	}
}

// Each alone has a batch open: of each one, of several, all told.
func TestOpenOfSeveral(t *testing.T) {
	for _, order := range orders([]string{"a", "b", "c", "d"}) {
		c := made(t, "b3 d3 a3 c3")
		want := read("a3 b3 c3 d3")
		for i, name := range order {
			opens(t, c, name, int64(4+i), api.OK)
			want[with(want, name)].Open = int64(4 + i)
			has(t, c, want)
		}
		for i, name := range order {
			opens(t, c, name, far, api.ErrState)
			finishes(t, c, name, int64(4+i), api.OK)
			want[with(want, name)] = cursor.Cursor{Name: name, Last: int64(4 + i)}
			has(t, c, want)
		}
	}
}

func TestOpenOfOneThatHasOneOpen(t *testing.T) {
	for _, text := range texts() {
		c := made(t, text)
		for _, x := range read(text) {
			if x.Open == 0 {
				continue
			}
			for _, next := range numbers(x.Last, x.Open) {
				opens(t, c, x.Name, next, api.ErrState)
			}
			is(t, c, text)
		}
	}
}

func TestOpenOfOneThatThereIsnt(t *testing.T) {
	for _, text := range texts() {
		c := made(t, text)
		for _, name := range append(names(), noNames()...) {
			if with(read(text), name) >= 0 {
				continue
			}
			for _, next := range []int64{deep, -1, 0, 1, 3, 4, far} {
				opens(t, c, name, next, api.ErrNone)
			}
		}
		is(t, c, text)
	}
}

// ErrNone is told ahead of ErrState, and that ahead of ErrArg.
func TestOrderOfErrorsOfOpen(t *testing.T) {
	c := made(t, "a3-5 b3")
	for _, next := range []int64{deep, -1, 0, 1, 2, 3, 4, 5, 6, far} {
		opens(t, c, "z", next, api.ErrNone)
		opens(t, c, "", next, api.ErrNone)
		opens(t, c, "a", next, api.ErrState)
		if next <= 3 {
			opens(t, c, "b", next, api.ErrArg)
		}
	}
	is(t, c, "a3-5 b3")
	finishes(t, c, "a", 5, api.OK)
	for _, next := range []int64{deep, -1, 0, 3, 4, 5} {
		opens(t, c, "a", next, api.ErrArg)
	}
	opens(t, c, "a", 6, api.OK)
	is(t, c, "a5-6 b3")
}

// What was open is told, and is Last then; nothing is open any more.
func TestFinish(t *testing.T) {
	for _, text := range texts() {
		for i, x := range read(text) {
			c := made(t, text)
			if x.Open == 0 {
				finishes(t, c, x.Name, 0, api.ErrState)
				is(t, c, text)
				continue
			}
			finishes(t, c, x.Name, x.Open, api.OK)
			want := read(text)
			want[i] = cursor.Cursor{Name: x.Name, Last: x.Open}
			has(t, c, want)
			finishes(t, c, x.Name, 0, api.ErrState)
			has(t, c, want)
		}
	}
}

// Behind it a batch may be open again: above what was finished, not just above what was finished ahead of that.
func TestFinishAndOpenAgain(t *testing.T) {
	c := made(t, "a3 b1")
	last := int64(3)
	for _, next := range []int64{4, 5, 9, 41, 1 << 32, 1<<32 + 1, far - 1, far} {
		opens(t, c, "a", next, api.OK)
		opens(t, c, "a", next, api.ErrState)
		finishes(t, c, "a", next, api.OK)
		finishes(t, c, "a", 0, api.ErrState)
		for _, n := range []int64{deep, 0, last, last + 1, next - 1, next} {
			if n <= next {
				opens(t, c, "a", n, api.ErrArg)
			}
		}
		last = next
	}
	has(t, c, []cursor.Cursor{{Name: "a", Last: far}, {Name: "b", Last: 1}})
	for _, next := range numbers() { // there is no number above
		opens(t, c, "a", next, api.ErrArg)
	}
}

func TestFinishOfOneThatThereIsnt(t *testing.T) {
	for _, text := range texts() {
		c := made(t, text)
		for _, name := range append(names(), noNames()...) {
			if with(read(text), name) < 0 {
				finishes(t, c, name, 0, api.ErrNone)
			}
		}
		is(t, c, text)
	}
}

// A batch that was open when its consumer went is nobody's, also if one of that name comes again.
func TestFinishBehindUnregister(t *testing.T) {
	c := made(t, "a3-5 b3-7")
	unregisters(t, c, "a", api.OK)
	finishes(t, c, "a", 0, api.ErrNone)
	is(t, c, "b3-7")
	registers(t, c, "a", 4, api.OK)
	finishes(t, c, "a", 0, api.ErrState)
	is(t, c, "a4 b3-7")
	finishes(t, c, "b", 7, api.OK)
	is(t, c, "a4 b7")
}

// One goes on from tick to tick, while others stay where they are.
func TestManyTicks(t *testing.T) {
	c := made(t, "b1 a1-2 d1 c4000")
	for n := int64(2); n <= 5000; n++ {
		opens(t, c, "b", n, api.OK)
		finishes(t, c, "b", n, api.OK)
		if n%3 == 0 {
			opens(t, c, "d", n, api.OK)
			finishes(t, c, "d", n, api.OK)
		}
	}
	is(t, c, "a1-2 b5000 c4000 d4998")
	if n, ok := c.Least(); n != 1 || !ok {
		t.Error(n, ok)
	}
	unregisters(t, c, "a", api.OK)
	if n, ok := c.Least(); n != 4000 || !ok {
		t.Error(n, ok)
	}
}
