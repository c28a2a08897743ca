package tick_test

import (
	"slices"
	"testing"

	"carrier/api"
	"carrier/tick"
)

// overwrite writes into a list, and into the room that it has behind it.
func overwrite(l []int64) {
	l = l[:cap(l)]
	for i := range l {
		l[i] = -77
	}
}

// roomy is a tick with an Open that has room behind it.
func roomy(y api.Tick, room int) api.Tick {
	y.Snap.Open = append(make([]int64, 0, len(y.Snap.Open)+room), y.Snap.Open...)
	return y
}

// several are ticks with few open ones, with none, and with many.
func several() []api.Tick {
	l := []api.Tick{
		{N: 1, Snap: sees(1), At: 3},
		{N: 2, Snap: sees(5, 1, 2, 3, 4), At: 3},
		{N: 3, Snap: sees(9, 2, 4), At: 4},
		{N: 4, Snap: sees(9, 4), At: 9},
		{N: 5, Snap: sees(2000), At: 9},
	}
	for n := int64(9); n < 2000; n += 2 {
		l[4].Snap.Open = append(l[4].Snap.Open, n)
	}
	return append(l, api.Tick{N: 6, Snap: sees(2000), At: 9})
}

// filled is ticks with the several ones: added, or put.
func filled(t *testing.T, put bool) *tick.Ticks {
	t.Helper()
	x := tick.New()
	for _, y := range several() {
		if put {
			puts(t, x, y, api.OK)
		} else {
			adds(t, x, y)
		}
	}
	return x
}

func TestSnapshotsThatWereAddedMayBeWrittenOver(t *testing.T) {
	for room := range 3 {
		x := tick.New()
		for _, y := range several() {
			y = roomy(y, room)
			got, e := x.Add(y.Snap, y.At)
			overwrite(y.Snap.Open)
			if e != api.OK || !alike(got, several()[y.N-1]) {
				t.Fatal(short(got), e)
			}
			has(t, x, several()[:y.N], y.N)
		}
	}
}

func TestTicksThatWerePutMayBeWrittenOver(t *testing.T) {
	for room := range 3 {
		x := tick.New()
		for _, y := range several() {
			n := y.N
			y = roomy(y, room)
			puts(t, x, y, api.OK)
			y.N, y.At, y.Snap.Max = 77, 77, 77
			overwrite(y.Snap.Open)
			has(t, x, several()[:n], n)
		}
	}
}

// The next one is held against the last one as that was handed in, not as its list has been written over since.
func TestWhatWasWrittenOverDoesNotCount(t *testing.T) {
	for _, put := range []bool{false, true} {
		y := api.Tick{N: 1, Snap: sees(6, 2, 4)}
		x := tick.New()
		if put {
			puts(t, x, y, api.OK)
		} else {
			got, _ := x.Add(y.Snap, y.At)
			got.Snap.Open[1] = 3
		}
		y.Snap.Open[0] = 3
		for _, ask := range []func(n int64) (api.Tick, bool){x.Get, func(n int64) (api.Tick, bool) { return x.After(n - 1) }} {
			if got, ok := ask(1); ok {
				got.Snap.Open[1] = 5
			}
		}
		refuses(t, x, sees(6, 3), 0, api.ErrArg)
		refuses(t, x, sees(6, 5), 0, api.ErrArg)
		adds(t, x, api.Tick{N: 2, Snap: sees(6, 2, 4)})
	}
}

// asked are the answers that Get and After tell of a number.
func asked(t *testing.T, x *tick.Ticks, n int64) []api.Tick {
	t.Helper()
	one, ok := x.Get(n)
	other, also := x.After(n - 1)
	if !ok || !also {
		t.Fatal(n, ok, also)
	}
	return []api.Tick{one, other}
}

func TestAnswersMayBeWrittenOver(t *testing.T) {
	for _, put := range []bool{false, true} {
		x := filled(t, put)
		for _, want := range several() {
			answers := append(asked(t, x, want.N), asked(t, x, want.N)...)
			for i, y := range answers {
				if !alike(y, want) {
					t.Fatal(want.N, i, short(y))
				}
				overwrite(y.Snap.Open)
				has(t, x, several(), 6)
			}
		}
	}
}

func TestWhatAddAnswersMayBeWrittenOver(t *testing.T) {
	x := tick.New()
	for _, want := range several() {
		in := copied([]api.Tick{want})[0]
		y, _ := x.Add(in.Snap, in.At)
		overwrite(y.Snap.Open)
		if !alike(in, want) {
			t.Fatal(short(in))
		}
		has(t, x, several()[:want.N], want.N)
	}
}

// Who appends to an answer writes neither into what is kept nor into another answer.
func TestRoomBehindAnswersIsTheCallers(t *testing.T) {
	x := tick.New()
	for _, want := range several() {
		for room := range 3 {
			if x.Last() < want.N {
				in := roomy(want, room)
				y, _ := x.Add(in.Snap, in.At)
				longer := append(y.Snap.Open, -1)
				other := append(in.Snap.Open, -2)
				if longer[len(longer)-1] != -1 || other[len(other)-1] != -2 {
					t.Fatal(short(longer), short(other))
				}
			}
			var longer [][]int64
			for i, y := range asked(t, x, want.N) {
				longer = append(longer, append(y.Snap.Open, int64(-i)))
			}
			for i, l := range longer {
				if l[len(l)-1] != int64(-i) {
					t.Fatal(i, short(l))
				}
			}
		}
		has(t, x, several()[:want.N], want.N)
	}
}

// What was answered stays as it was, whatever is done behind it.
func TestAnswersStay(t *testing.T) {
	for name, done := range map[string]func(x *tick.Ticks){
		"Add": func(x *tick.Ticks) { x.Add(sees(2001, 2000), 10) },
		"many": func(x *tick.Ticks) {
			for n := range int64(200) {
				x.Trim(n)
				x.Add(sees(2001+n, 2000+n), 10)
			}
		},
		"Trim":       func(x *tick.Ticks) { x.Trim(3) },
		"Trim all":   func(x *tick.Ticks) { x.Trim(far) },
		"Trim, Add":  func(x *tick.Ticks) { x.Trim(5); x.Add(sees(3000, 2999), 10); x.Add(sees(3000), 10) },
		"Trim, Put":  func(x *tick.Ticks) { x.Trim(far); x.Put(api.Tick{N: 7, Snap: sees(3000, 2999), At: 10}) },
		"refused":    func(x *tick.Ticks) { x.Add(sees(5), 10); x.Put(api.Tick{N: 7, Snap: sees(far), At: 0}) },
		"just asked": func(x *tick.Ticks) { x.Get(2); x.After(2); x.Last(); x.Len() },
	} {
		x := filled(t, false)
		var answers []api.Tick
		for n := range int64(6) {
			answers = append(answers, asked(t, x, n+1)...)
		}
		done(x)
		for i, y := range answers {
			if !alike(y, several()[i/2]) {
				t.Fatal(name, i, short(y))
			}
		}
	}
}

// No call writes into what it was handed, nor into the room behind it, whether it is taken or refused.
func TestWhatIsHandedInStays(t *testing.T) {
	for _, s := range append(append(right(5), wrong()...), sees(far, 1, 2, 3), sees(2000, 1999)) {
		for _, fill := range []int64{0, 1, 5, 64} {
			x := made(t, 1, fill)
			y := roomy(api.Tick{Snap: s}, 4)
			whole := y.Snap.Open[:cap(y.Snap.Open)]
			was := slices.Clone(whole)
			for _, at := range []int64{deep, 0, 50, far} {
				x.Add(y.Snap, at)
				for n := range fill + 3 {
					x.Put(api.Tick{N: n, Snap: y.Snap, At: at})
				}
				x.Trim(x.Last())
			}
			if !slices.Equal(whole, was) {
				t.Fatal(short(s), fill, whole)
			}
		}
	}
}

// One list may be handed in again and again, to several: each has its own of it.
func TestListsMayBeHandedInAgain(t *testing.T) {
	open := []int64{2, 4}
	a, b := tick.New(), tick.New()
	first, _ := a.Add(api.Snapshot{Max: 5, Open: open}, 1)
	second, _ := a.Add(api.Snapshot{Max: 5, Open: open}, 1)
	puts(t, b, api.Tick{N: 1, Snap: api.Snapshot{Max: 6, Open: open[:1]}}, api.OK)
	overwrite(open)
	overwrite(first.Snap.Open)
	if !slices.Equal(second.Snap.Open, []int64{2, 4}) {
		t.Error(second)
	}
	has(t, a, []api.Tick{{N: 1, Snap: sees(5, 2, 4), At: 1}, {N: 2, Snap: sees(5, 2, 4), At: 1}}, 2)
	has(t, b, []api.Tick{{N: 1, Snap: sees(6, 2)}}, 1)
}

func TestTicksShareNothing(t *testing.T) {
	a, b := made(t, 1, 5), made(t, 1, 3)
	for next, ok := a.After(3); ok; next, ok = a.After(b.Last()) {
		puts(t, b, next, api.OK)
	}
	hasPlain(t, b, 1, 5)
	a.Trim(far)
	hasPlain(t, b, 1, 5)
	b.Trim(3)
	adds(t, b, plain(6))
	hasPlain(t, a, 5, 5)
	hasPlain(t, b, 3, 6)
	has(t, tick.New(), nil, 0)
}
