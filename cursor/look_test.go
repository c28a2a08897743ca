package cursor_test

import (
	"slices"
	"testing"

	"carrier/api"
	"carrier/cursor"
)

// One that is there, at each moment of its life; ahead of it, and behind it, there is none.
func TestGet(t *testing.T) {
	none := cursor.Cursor{}
	c := made(t, "b7-8 A1")
	for i, step := range []struct {
		done func()
		want cursor.Cursor
	}{
		{func() {}, none},
		{func() { c.Open("a", 5) }, none},
		{func() { c.Finish("a") }, none},
		{func() { c.Register("a", 0) }, none},
		{func() { c.Register("a", 3) }, one("a3")},
		{func() { c.Register("a", 9) }, one("a3")},
		{func() { c.Finish("a") }, one("a3")},
		{func() { c.Open("a", 3) }, one("a3")},
		{func() { c.Open("a", 5) }, one("a3-5")},
		{func() { c.Open("a", 9) }, one("a3-5")},
		{func() { c.Finish("b") }, one("a3-5")},
		{func() { c.Finish("a") }, one("a5")},
		{func() { c.Finish("a") }, one("a5")},
		{func() { c.Open("b", 41) }, one("a5")},
		{func() { c.Open("a", 6) }, one("a5-6")},
		{func() { c.Unregister("b") }, one("a5-6")},
		{func() { c.Finish("a") }, one("a6")},
		{func() { c.Open("a", far) }, cursor.Cursor{Name: "a", Last: 6, Open: far}},
		{func() { c.Unregister("a") }, none},
		{func() { c.Finish("a") }, none},
		{func() { c.Register("a", 1) }, one("a1")},
		{func() { c.Open("a", 2) }, one("a1-2")},
		{func() { c.Unregister("a") }, none},
	} {
		step.done()
		if x, ok := c.Get("a"); x != step.want || ok != (step.want != none) {
			t.Fatal(i, x, ok, step.want)
		}
	}
}

func TestGetOfOneThatThereIsnt(t *testing.T) {
	for _, text := range texts() {
		c := made(t, text)
		for _, name := range append(names(), noNames()...) {
			i := with(read(text), name)
			x, ok := c.Get(name)
			if i < 0 && (ok || x != cursor.Cursor{}) || i >= 0 && (!ok || x != read(text)[i]) {
				t.Fatal(text, short(name), x, ok)
			}
		}
		is(t, c, text)
	}
}

// By their names, by bytes, in whichever order they came: one of each length is told ahead of all that begin with it.
func TestAllIsByNames(t *testing.T) {
	l := []string{"\x00", "10", "9", "A", "a", "a\x00", "ab", "b", "é", "\uffff", "\U00010000", "\xff"}
	if !slices.IsSortedFunc(l, func(a, b string) int {
		if below(a, b) {
			return -1
		}
		return 1
	}) {
		t.Fatal(short(l))
	}
	var came []string
	var come func()
	come = func() {
		c := cursor.New()
		var want []cursor.Cursor
		for i, name := range came {
			registers(t, c, name, int64(i+1), api.OK)
		}
		for _, name := range l {
			if i := slices.Index(came, name); i >= 0 {
				want = append(want, cursor.Cursor{Name: name, Last: int64(i + 1)})
			}
		}
		if all := c.All(); !slices.Equal(all, want) {
			t.Fatalf("%s, not %s", shown(all), shown(want))
		}
		if len(came) == api.MaxConsumers {
			return
		}
		for _, name := range l {
			if !slices.Contains(came, name) {
				came = append(came, name)
				come()
				came = came[:len(came)-1]
			}
		}
	}
	come()
}

// All, behind each of the other calls.
func TestAll(t *testing.T) {
	c := cursor.New()
	for i, step := range []struct {
		done func()
		want string
	}{
		{func() {}, ""},
		{func() { c.Unregister("a") }, ""},
		{func() { c.Register("c", 4) }, "c4"},
		{func() { c.Register("a", 9) }, "a9 c4"},
		{func() { c.Register("", 9) }, "a9 c4"},
		{func() { c.Register("a", 5) }, "a9 c4"},
		{func() { c.Open("c", 6) }, "a9 c4-6"},
		{func() { c.Open("c", 7) }, "a9 c4-6"},
		{func() { c.Register("d", 2) }, "a9 c4-6 d2"},
		{func() { c.Register("b", 1) }, "a9 b1 c4-6 d2"},
		{func() { c.Register("e", 1) }, "a9 b1 c4-6 d2"},
		{func() { c.Open("a", 9) }, "a9 b1 c4-6 d2"},
		{func() { c.Open("a", 10) }, "a9-10 b1 c4-6 d2"},
		{func() { c.Get("a") }, "a9-10 b1 c4-6 d2"},
		{func() { c.Least() }, "a9-10 b1 c4-6 d2"},
		{func() { c.Finish("b") }, "a9-10 b1 c4-6 d2"},
		{func() { c.Finish("c") }, "a9-10 b1 c6 d2"},
		{func() { c.Unregister("b") }, "a9-10 c6 d2"},
		{func() { c.Unregister("b") }, "a9-10 c6 d2"},
		{func() { c.Register("b", 3) }, "a9-10 b3 c6 d2"},
		{func() { c.Unregister("a") }, "b3 c6 d2"},
		{func() { c.Finish("a") }, "b3 c6 d2"},
		{func() { c.Unregister("d") }, "b3 c6"},
		{func() { c.Open("c", 7) }, "b3 c6-7"},
		{func() { c.Unregister("b") }, "c6-7"},
		{func() { c.Unregister("c") }, ""},
	} {
		step.done()
		if l := c.All(); !slices.Equal(l, read(step.want)) {
			t.Fatal(i, shown(l), step.want)
		}
		is(t, c, step.want)
	}
}

// The least Last of all: of each number of consumers, at each place, of several alike; what is open doesn't count.
func TestLeast(t *testing.T) {
	lasts := []int64{1, 2, 3, far - 1}
	for n := range api.MaxConsumers + 1 {
		for chosen := range 1 << (3 * n) { // of each one two bits for its Last, and one for whether a batch is open
			var l []cursor.Cursor
			least := int64(far)
			for i := range n {
				x := cursor.Cursor{Name: "bdac"[i : i+1], Last: lasts[chosen>>(3*i)&3]}
				if chosen>>(3*i+2)&1 == 1 {
					x.Open = x.Last + 1
				}
				least = min(least, x.Last)
				l = append(l, x)
			}
			c := filled(t, l)
			if got, ok := c.Least(); n > 0 && (got != least || !ok) || n == 0 && (got != 0 || ok) {
				t.Fatal(shown(l), got, ok, least)
			}
		}
	}
}

// Least, behind each of the other calls.
func TestLeastBehindEachCall(t *testing.T) {
	c := cursor.New()
	for i, step := range []struct {
		done func()
		want int64 // 0: none
	}{
		{func() {}, 0},
		{func() { c.Register("a", 0) }, 0},
		{func() { c.Register("b", far) }, far},
		{func() { c.Register("c", 3) }, 3},
		{func() { c.Register("a", 9) }, 3},
		{func() { c.Open("c", 5) }, 3},
		{func() { c.Open("a", 10) }, 3},
		{func() { c.Finish("b") }, 3},
		{func() { c.Finish("a") }, 3},
		{func() { c.Finish("c") }, 5},
		{func() { c.Open("c", 41) }, 5},
		{func() { c.Finish("c") }, 10},
		{func() { c.Register("d", 10) }, 10},
		{func() { c.Unregister("a") }, 10},
		{func() { c.Open("d", 50) }, 10},
		{func() { c.Unregister("d") }, 41},
		{func() { c.Unregister("d") }, 41},
		{func() { c.Register("d", 1) }, 1},
		{func() { c.Open("d", far) }, 1},
		{func() { c.Finish("d") }, 41},
		{func() { c.Unregister("c") }, far},
		{func() { c.Unregister("b") }, far},
		{func() { c.Unregister("d") }, 0},
		{func() { c.Open("d", 5) }, 0},
		{func() { c.Register("d", 5) }, 5},
	} {
		step.done()
		if n, ok := c.Least(); n != step.want || ok != (step.want > 0) {
			t.Fatal(i, n, ok, step.want)
		}
	}
}

// Looking changes nothing, however often one looks.
func TestLookingChangesNothing(t *testing.T) {
	for _, text := range texts() {
		c := made(t, text)
		for range 3 {
			is(t, c, text)
		}
	}
}

func TestOfNil(t *testing.T) {
	var c *cursor.Cursors
	for range 2 {
		for _, name := range append(names(), noNames()...) {
			for _, n := range numbers() {
				registers(t, c, name, n, api.ErrNone)
				opens(t, c, name, n, api.ErrNone)
			}
			unregisters(t, c, name, api.ErrNone)
			finishes(t, c, name, 0, api.ErrNone)
			if x, ok := c.Get(name); ok || x != (cursor.Cursor{}) {
				t.Fatal(short(name), x, ok)
			}
		}
		if l := c.All(); len(l) > 0 {
			t.Fatal(l)
		}
		if n, ok := c.Least(); n != 0 || ok {
			t.Fatal(n, ok)
		}
	}
}
