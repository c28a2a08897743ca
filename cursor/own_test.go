package cursor_test

import (
	"slices"
	"testing"

	"carrier/api"
	"carrier/cursor"
)

// overwrite writes into a list, and into the room that it has behind it.
func overwrite(l []cursor.Cursor) {
	l = l[:cap(l)]
	for i := range l {
		l[i] = cursor.Cursor{Name: "over", Last: 77, Open: 78}
	}
}

func TestAllMayBeWrittenOver(t *testing.T) {
	for _, text := range texts() {
		c := made(t, text)
		first, second := c.All(), c.All()
		was := slices.Clone(second)
		overwrite(first)
		if !slices.Equal(second, was) {
			t.Fatal(shown(second), shown(was))
		}
		is(t, c, text)
		overwrite(second)
		is(t, c, text)
		slices.Reverse(c.All())
		clear(c.All())
		is(t, c, text)
	}
}

// A list that was told is the caller's also behind other calls: it may be written over then, too.
func TestAllMayBeWrittenOverLater(t *testing.T) {
	for _, text := range texts() {
		for _, x := range read(text) {
			c := made(t, text)
			l := c.All()
			c.Open(x.Name, far)
			overwrite(l)
			l = c.All()
			c.Unregister(x.Name)
			overwrite(l)
			l = c.All()
			c.Register(x.Name, 41)
			overwrite(l)
			want := read(text)
			want[with(want, x.Name)] = cursor.Cursor{Name: x.Name, Last: 41}
			has(t, c, want)
		}
	}
}

// Who appends to a list doesn't write where the next consumer goes, nor into another list.
func TestRoomBehindAllIsTheCallers(t *testing.T) {
	for _, text := range []string{"", "a3", "a3 b7-8", "a3 b7-8 c5"} {
		c := made(t, text)
		first, second := c.All(), c.All()
		longer := append(first, one("y1"))
		other := append(second, one("y2"))
		registers(t, c, "z", 9, api.OK)
		if longer[len(longer)-1] != one("y1") || other[len(other)-1] != one("y2") {
			t.Fatal(shown(longer), shown(other))
		}
		has(t, c, append(read(text), one("z9")))
		overwrite(longer)
		overwrite(other)
		has(t, c, append(read(text), one("z9")))
	}
}

func TestGetMayBeWrittenOver(t *testing.T) {
	for _, text := range texts() {
		c := made(t, text)
		for _, x := range read(text) {
			got, _ := c.Get(x.Name)
			p := &got
			p.Name, p.Last, p.Open = "over", 77, 78
			is(t, c, text)
		}
	}
}

// What was answered stays as it was, whatever is done behind it.
func TestAnswersStay(t *testing.T) {
	for name, done := range map[string]func(c *cursor.Cursors){
		"Register":   func(c *cursor.Cursors) { c.Register("A", 1); c.Register("az", 2); c.Register("z", 3) },
		"Open":       func(c *cursor.Cursors) { c.Open("a", far); c.Open("b", far); c.Open("d", far) },
		"Finish":     func(c *cursor.Cursors) { c.Finish("a"); c.Finish("b"); c.Finish("c"); c.Finish("d") },
		"Unregister": func(c *cursor.Cursors) { c.Unregister("a"); c.Unregister("c") },
		"all gone": func(c *cursor.Cursors) {
			for _, x := range c.All() {
				c.Unregister(x.Name)
			}
		},
		"all gone, others come": func(c *cursor.Cursors) {
			for _, x := range c.All() {
				c.Unregister(x.Name)
			}
			for _, name := range []string{"p", "q", "r", "s"} {
				c.Register(name, 50)
				c.Open(name, 60)
			}
		},
	} {
		for _, text := range texts() {
			c := made(t, text)
			l := c.All()
			var each []cursor.Cursor
			for _, x := range l {
				got, _ := c.Get(x.Name)
				each = append(each, got)
			}
			done(c)
			if want := rising(read(text)); !slices.Equal(l, want) || !slices.Equal(each, want) {
				t.Fatal(name, shown(l), shown(each), text)
			}
		}
	}
}

// The bytes that a name was made of may be written over: what is there is the name as it was.
func TestNamesMayBeOfBytesThatChange(t *testing.T) {
	c := cursor.New()
	p := []byte("abcd")
	for i := range p {
		registers(t, c, string(p[i:i+1]), int64(i+1), api.OK)
		p[i] = 'z'
	}
	is(t, c, "a1 b2 c3 d4")
	opens(t, c, "z", 5, api.ErrNone)
}

func TestCursorsShareNothing(t *testing.T) {
	a, b := made(t, "a3 b7-8"), made(t, "b1 c5")
	opens(t, a, "a", 5, api.OK)
	is(t, b, "b1 c5")
	finishes(t, a, "b", 8, api.OK)
	finishes(t, b, "b", 0, api.ErrState)
	unregisters(t, a, "b", api.OK)
	is(t, b, "b1 c5")
	registers(t, b, "a", 9, api.OK)
	is(t, a, "a3-5")
	is(t, b, "a9 b1 c5")
	is(t, cursor.New(), "")
}

// One may be handed over to another one, as it is told.
func TestCursorsMayBeMadeOfWhatAnotherOneTells(t *testing.T) {
	for _, text := range texts() {
		a := made(t, text)
		b := filled(t, a.All())
		for _, x := range a.All() {
			if got, ok := b.Get(x.Name); !ok || got != x {
				t.Fatal(text, x, got, ok)
			}
			a.Unregister(x.Name)
		}
		is(t, a, "")
		is(t, b, text)
	}
}
