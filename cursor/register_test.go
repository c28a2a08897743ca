package cursor_test

import (
	"testing"

	"carrier/api"
	"carrier/cursor"
)

func TestNewHasNone(t *testing.T) {
	is(t, cursor.New(), "")
}

func TestRegister(t *testing.T) {
	c := cursor.New()
	registers(t, c, "b", 3, api.OK)
	is(t, c, "b3")
	registers(t, c, "a", 9, api.OK)
	is(t, c, "a9 b3")
	registers(t, c, "d", 1, api.OK)
	is(t, c, "a9 b3 d1")
	registers(t, c, api.Replica, 3, api.OK)
	is(t, c, "a9 b3 d1 replica3")
}

// Each name that may be, alone, and behind others.
func TestRegisterOfNames(t *testing.T) {
	for _, name := range names() {
		c := cursor.New()
		registers(t, c, name, 5, api.OK)
		has(t, c, []cursor.Cursor{{Name: name, Last: 5}})
		opens(t, c, name, 6, api.OK)
		finishes(t, c, name, 6, api.OK)
		unregisters(t, c, name, api.OK)
		is(t, c, "")
		for _, other := range names() {
			if other == name {
				continue
			}
			c := filled(t, []cursor.Cursor{{Name: other, Last: 7}})
			registers(t, c, name, 5, api.OK)
			has(t, c, []cursor.Cursor{{Name: other, Last: 7}, {Name: name, Last: 5}})
			opens(t, c, name, 6, api.OK)
			unregisters(t, c, other, api.OK)
			finishes(t, c, name, 6, api.OK)
		}
	}
}

// Names of each length: from one byte to MaxText bytes they may be.
func TestRegisterOfEachLength(t *testing.T) {
	for _, letter := range []string{"a", "\x00", "\xff", "é", "\u20ac", "\U00010000"} {
		name := ""
		for range 3 * api.MaxText {
			want := api.OK
			if len(name) < 1 || len(name) > 40 {
				want = api.ErrArg
			}
			registers(t, cursor.New(), name, 1, want)
			registers(t, made(t, "b7-8 A3"), name, 1, want)
			name += letter
		}
	}
}

func TestRegisterOfWrongNames(t *testing.T) {
	for _, text := range texts() {
		c := made(t, text)
		for _, name := range noNames() {
			for _, at := range numbers(3) {
				registers(t, c, name, at, api.ErrArg)
			}
		}
		is(t, c, text)
	}
}

// From 1 on a number may be; it is there as it was handed in.
func TestRegisterAtNumbers(t *testing.T) {
	for _, at := range numbers() {
		want := api.OK
		if at < 1 {
			want = api.ErrArg
		}
		for _, text := range []string{"", "b3", "b3-4 c9", "c9 A3 b3"} {
			c := made(t, text)
			registers(t, c, "a", at, want)
			if want == api.OK {
				has(t, c, append(read(text), cursor.Cursor{Name: "a", Last: at}))
			} else {
				is(t, c, text)
			}
		}
	}
}

// A name that is there is refused, whatever its Last and Open are, and at whichever number it comes again.
func TestRegisterOfOneThatIsThere(t *testing.T) {
	for _, text := range texts() {
		c := made(t, text)
		for _, x := range read(text) {
			for _, at := range numbers(x.Last, x.Open) {
				if at >= 1 {
					registers(t, c, x.Name, at, api.ErrDup)
				}
			}
		}
		is(t, c, text)
	}
}

func TestRegisterOfOneThatIsThereBehindFinish(t *testing.T) {
	c := made(t, "a3-5")
	registers(t, c, "a", 3, api.ErrDup)
	finishes(t, c, "a", 5, api.OK)
	registers(t, c, "a", 3, api.ErrDup)
	registers(t, c, "a", 5, api.ErrDup)
	registers(t, c, "a", 6, api.ErrDup)
	is(t, c, "a5")
}

// As many as may be: there is room for each of them, and for no more, till one is gone.
func TestRegisterIsFull(t *testing.T) {
	if api.MaxConsumers != 4 {
		t.Fatal(api.MaxConsumers)
	}
	for _, gone := range []string{"a", "b", "c", "d"} {
		c := cursor.New()
		for _, name := range []string{"c", "a", "d", "b"} {
			registers(t, c, name, 2, api.OK)
		}
		for _, name := range []string{"e", "A", "bb", most("x"), "\xff"} {
			for _, at := range []int64{1, 2, 3, far} {
				registers(t, c, name, at, api.ErrFull)
			}
		}
		is(t, c, "a2 b2 c2 d2")
		opens(t, c, gone, 3, api.OK)
		registers(t, c, "e", 2, api.ErrFull)
		finishes(t, c, gone, 3, api.OK)
		registers(t, c, "e", 2, api.ErrFull)
		unregisters(t, c, gone, api.OK)
		registers(t, c, "e", 5, api.OK)
		registers(t, c, gone, 2, api.ErrFull)
		unregisters(t, c, "e", api.OK)
		registers(t, c, gone, 2, api.OK)
		registers(t, c, "e", 5, api.ErrFull)
		is(t, c, "a2 b2 c2 d2")
	}
}

// However many come and go, there is room for as many as may be.
func TestRegisterOfVeryMany(t *testing.T) {
	c := cursor.New()
	for n := range 3000 {
		name := names()[n%len(names())]
		registers(t, c, name, int64(n+1), api.OK)
		if n >= 3 {
			registers(t, c, "full", 1, api.ErrFull)
			unregisters(t, c, names()[(n-3)%len(names())], api.OK)
		}
	}
}

// ErrArg is told ahead of ErrDup, and that ahead of ErrFull.
func TestOrderOfErrorsOfRegister(t *testing.T) {
	for _, text := range []string{"a3 b7-8 c5 d4", "d4 c5-6 b7 a3-9"} {
		c := made(t, text)
		for _, name := range []string{"a", "b", "c", "d"} {
			for _, at := range []int64{deep, -1, 0} {
				registers(t, c, name, at, api.ErrArg)
			}
			for _, at := range []int64{1, 3, 9, far} {
				registers(t, c, name, at, api.ErrDup)
			}
		}
		for _, name := range noNames() {
			for _, at := range []int64{deep, 0, 1, far} {
				registers(t, c, name, at, api.ErrArg)
			}
		}
		for _, at := range []int64{deep, -1, 0} {
			registers(t, c, "e", at, api.ErrArg)
		}
		registers(t, c, "e", 1, api.ErrFull)
		is(t, c, text)
	}
	c := made(t, "a3 b7-8")
	registers(t, c, "a", 0, api.ErrArg)
	registers(t, c, "b", -7, api.ErrArg)
	registers(t, c, "b", 7, api.ErrDup)
	is(t, c, "a3 b7-8")
}

// Just that one is gone, with a batch open or with none, whichever it is.
func TestUnregister(t *testing.T) {
	for _, text := range texts() {
		l := read(text)
		for i, x := range l {
			c := made(t, text)
			unregisters(t, c, x.Name, api.OK)
			left := append(read(text)[:i], l[i+1:]...)
			has(t, c, left)
			unregisters(t, c, x.Name, api.ErrNone)
			opens(t, c, x.Name, far, api.ErrNone)
			finishes(t, c, x.Name, 0, api.ErrNone)
			has(t, c, left)
		}
	}
}

// All go, one by one, in any order.
func TestUnregisterOfAll(t *testing.T) {
	for _, order := range orders([]string{"a", "b", "c", "d"}) {
		c := made(t, "b3-4 d9 a7-8 c5")
		for _, name := range order {
			unregisters(t, c, name, api.OK)
			unregisters(t, c, name, api.ErrNone)
		}
		is(t, c, "")
		registers(t, c, order[0], 1, api.OK)
		has(t, c, []cursor.Cursor{{Name: order[0], Last: 1}})
	}
}

func TestUnregisterOfOneThatThereIsnt(t *testing.T) {
	for _, text := range texts() {
		c := made(t, text)
		for _, name := range append(names(), noNames()...) {
			if with(read(text), name) < 0 {
				unregisters(t, c, name, api.ErrNone)
			}
		}
		is(t, c, text)
	}
}

// Names that are alike but for a byte, or for a byte more, are not the same one.
func TestUnregisterOfOneThatIsNearlyThere(t *testing.T) {
	c := filled(t, []cursor.Cursor{{Name: "ab", Last: 3}, {Name: most("a"), Last: 4, Open: 5}})
	for _, name := range []string{"a", "abc", "ab\x00", "AB", "Ab", "ab ", " ab", "b", "ba", "aab", most("a")[1:], most("a") + "a", most("a")[1:] + "b"} {
		unregisters(t, c, name, api.ErrNone)
		opens(t, c, name, 9, api.ErrNone)
		finishes(t, c, name, 0, api.ErrNone)
	}
	unregisters(t, c, "ab", api.OK)
	has(t, c, []cursor.Cursor{{Name: most("a"), Last: 4, Open: 5}})
}

// One that comes again begins anew: at its new number, which may be less than what it had finished, with none open.
func TestUnregisterAndRegisterAgain(t *testing.T) {
	for _, text := range texts() {
		for i, x := range read(text) {
			for _, at := range []int64{1, x.Last, x.Last/2 + 1, far} {
				c := made(t, text)
				unregisters(t, c, x.Name, api.OK)
				registers(t, c, x.Name, at, api.OK)
				want := read(text)
				want[i] = cursor.Cursor{Name: x.Name, Last: at}
				has(t, c, want)
				finishes(t, c, x.Name, 0, api.ErrState)
				opens(t, c, x.Name, at, api.ErrArg)
				if at < far {
					opens(t, c, x.Name, at+1, api.OK)
					finishes(t, c, x.Name, at+1, api.OK)
				}
			}
		}
	}
}

// orders are all lists of those names, each once, in each order.
func orders(l []string) [][]string {
	if len(l) == 0 {
		return [][]string{nil}
	}
	var all [][]string
	for i, first := range l {
		left := append(append([]string{}, l[:i]...), l[i+1:]...)
		for _, behind := range orders(left) {
			all = append(all, append([]string{first}, behind...))
		}
	}
	return all
}
