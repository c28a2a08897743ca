package tick_test

import (
	"testing"

	"carrier/api"
	"carrier/tick"
)

// The chapter's example.
func TestExample(t *testing.T) {
	x := tick.New()
	adds(t, x, api.Tick{N: 1, Snap: sees(1)})
	adds(t, x, api.Tick{N: 2, Snap: sees(1)})
	trims(t, x, 9, 1)
	if x.Last() != 2 {
		t.Error(x.Last())
	}
}

func TestNewHasNone(t *testing.T) {
	has(t, tick.New(), nil, 0)
}

func TestAddIsBehindTheLastOne(t *testing.T) {
	x := tick.New()
	for n := int64(1); n <= api.MaxTicks; n++ {
		adds(t, x, plain(n))
		hasPlain(t, x, 1, n)
	}
}

func TestAddBehindTrim(t *testing.T) {
	for _, s := range spans() {
		if s.to-s.from+1 == api.MaxTicks {
			continue
		}
		x := made(t, s.from, s.to)
		adds(t, x, plain(s.to+1))
		hasPlain(t, x, s.from, s.to+1)
	}
}

// Numbers go on, however many there were: what was let go doesn't count any more.
func TestAddOfVeryMany(t *testing.T) {
	x := tick.New()
	from := int64(1)
	for n := int64(1); n <= 3000; n++ {
		adds(t, x, plain(n))
		if n%50 == 0 {
			hasPlain(t, x, from, n)
			trims(t, x, n, int(n-from))
			hasPlain(t, x, n, n)
			from = n
		}
	}
}

// The snapshot and the moment are there as they were handed in.
func TestAddKeepsWhatItWasHanded(t *testing.T) {
	for _, s := range append(right(5), sees(far), sees(far, far-1), sees(far, 1, 1<<40, far-2, far-1), api.Snapshot{Max: 1, Open: []int64{}}) {
		for _, at := range []int64{deep, deep + 1, -1 << 32, -1, 0, 1, 1 << 32, far - 1, far} {
			want := api.Tick{N: 1, Snap: s, At: at}
			x := tick.New()
			adds(t, x, want)
			has(t, x, []api.Tick{want}, 1)
			x = tick.New()
			puts(t, x, want, api.OK)
			has(t, x, []api.Tick{want}, 1)
		}
	}
}

func TestAddIsFull(t *testing.T) {
	for _, s := range []span{{1, 64}, {2, 65}, {137, 200}} {
		x := made(t, s.from, s.to)
		next := plain(s.to + 1)
		refuses(t, x, next.Snap, next.At, api.ErrFull)
		hasPlain(t, x, s.from, s.to)
		trims(t, x, s.from, 0) // none: there is no room yet
		refuses(t, x, next.Snap, next.At, api.ErrFull)
		trims(t, x, s.from+1, 1) // room for one
		adds(t, x, next)
		hasPlain(t, x, s.from+1, s.to+1)
		next = plain(s.to + 2)
		refuses(t, x, next.Snap, next.At, api.ErrFull)
		trims(t, x, far, api.MaxTicks-1) // room for all but one
		for n := s.to + 2; n <= s.to+api.MaxTicks; n++ {
			adds(t, x, plain(n))
		}
		refuses(t, x, sees(far), far, api.ErrFull)
		hasPlain(t, x, s.to+1, s.to+api.MaxTicks)
	}
}

func TestAddOfWrongSnapshots(t *testing.T) {
	for _, s := range []span{{1, 0}, {1, 1}, {1, 63}, {5, 9}, {64, 64}, {90, 130}} {
		x := made(t, s.from, s.to)
		for _, w := range wrong() {
			for _, at := range []int64{deep, 0, plain(s.to).At, far} {
				refuses(t, x, w, at, api.ErrArg)
			}
		}
		hasPlain(t, x, s.from, s.to)
		adds(t, x, plain(s.to+1)) // and all goes on as it would
		hasPlain(t, x, s.from, s.to+1)
	}
}

func TestAddMustCover(t *testing.T) {
	for _, c := range []struct {
		name string
		s    api.Snapshot
		want api.Errno
	}{
		{"the same", sees(8, 3, 5), api.OK},
		{"one that was open isn't any more", sees(8, 3), api.OK},
		{"none is open any more", sees(8), api.OK},
		{"a greater Max", sees(9, 3, 5), api.OK},
		{"a greater Max, what lies beyond is open", sees(10, 3, 5, 8, 9), api.OK},
		{"a greater Max, none is open", sees(9), api.OK},
		{"the greatest Max", sees(far), api.OK},
		{"a smaller Max: fewer are seen", sees(7, 3, 5), api.ErrArg},
		{"a smaller Max, none is open", sees(7), api.ErrArg},
		{"the least Max", sees(1), api.ErrArg},
		{"one that was seen is open", sees(8, 3, 4, 5), api.ErrArg},
		{"the first one that was seen is open", sees(8, 1, 3, 5), api.ErrArg},
		{"the last one that was seen is open", sees(8, 3, 5, 7), api.ErrArg},
		{"another one is open", sees(8, 3, 6), api.ErrArg},
		{"a greater Max, one that was seen is open", sees(20, 3, 5, 6), api.ErrArg},
		{"the greatest Max, one that was seen is open", sees(far, 2), api.ErrArg},
	} {
		for _, ahead := range [][]api.Tick{nil, {{N: 1, Snap: sees(6, 3, 4, 5), At: 4}}, {{N: 1, Snap: sees(1), At: 0}, {N: 2, Snap: sees(8, 3, 5, 7), At: 7}}} {
			x := tick.New()
			for _, y := range ahead {
				adds(t, x, y)
			}
			n := int64(len(ahead))
			last := api.Tick{N: n + 1, Snap: sees(8, 3, 5), At: 7}
			kept := append(copied(ahead), last)
			adds(t, x, last)
			if c.want != api.OK {
				refuses(t, x, c.s, 7, c.want)
				refuses(t, x, c.s, far, c.want)
				has(t, x, kept, n+1)
				trims(t, x, far, len(ahead)) // the last one counts, whatever is let go ahead of it
				refuses(t, x, c.s, 7, c.want)
				has(t, x, kept[n:], n+1)
				continue
			}
			next := api.Tick{N: n + 2, Snap: c.s, At: 7}
			adds(t, x, next)
			has(t, x, append(kept, next), n+2)
		}
	}
}

// All pairs of small snapshots: the second one is taken just if it sees all that the first one sees.
func TestAddOfAllSmallSnapshots(t *testing.T) {
	all := right(6)
	taken := 0
	for _, a := range all {
		for _, b := range all {
			x := tick.New()
			first, second := api.Tick{N: 1, Snap: a}, api.Tick{N: 2, Snap: b}
			adds(t, x, first)
			if seesAll(b, a) {
				adds(t, x, second)
				has(t, x, []api.Tick{first, second}, 2)
				taken++
			} else {
				refuses(t, x, b, 0, api.ErrArg)
				has(t, x, []api.Tick{first}, 1)
			}
		}
	}
	if taken == 0 || taken == len(all)*len(all) {
		t.Error(taken)
	}
}

// A smaller Max may Cover, too, if all from it on were open.
func TestAddOfASmallerMax(t *testing.T) {
	x := tick.New()
	adds(t, x, api.Tick{N: 1, Snap: sees(7, 5, 6)})
	adds(t, x, api.Tick{N: 2, Snap: sees(5)})
	refuses(t, x, sees(4), 0, api.ErrArg)
	adds(t, x, api.Tick{N: 3, Snap: sees(6, 5)})
	has(t, x, []api.Tick{{N: 1, Snap: sees(7, 5, 6)}, {N: 2, Snap: sees(5)}, {N: 3, Snap: sees(6, 5)}}, 3)
}

func TestAddOfMoments(t *testing.T) {
	for _, was := range []int64{deep, deep + 1, -1 << 32, -1, 0, 1, 7, 1 << 32, far - 1, far} {
		for _, at := range []int64{deep, deep + 1, -1 << 32, -2, -1, 0, 1, 2, 6, 7, 8, 1<<32 - 1, 1 << 32, far - 2, far - 1, far} {
			x := tick.New()
			first, second := api.Tick{N: 1, Snap: sees(3), At: was}, api.Tick{N: 2, Snap: sees(4), At: at}
			adds(t, x, first)
			if at < was {
				refuses(t, x, sees(4), at, api.ErrArg)
				has(t, x, []api.Tick{first}, 1)
				continue
			}
			adds(t, x, second)
			has(t, x, []api.Tick{first, second}, 2)
			trims(t, x, 2, 1)
			if at > deep {
				refuses(t, x, sees(4), at-1, api.ErrArg)
			}
			has(t, x, []api.Tick{second}, 2)
		}
	}
}

// Just the last one's moment counts, however many others are kept: those below it are no later.
func TestAddOfTheSameMomentAgainAndAgain(t *testing.T) {
	x := tick.New()
	var kept []api.Tick
	for n := int64(1); n <= 20; n++ {
		y := api.Tick{N: n, Snap: sees(3, 1), At: n / 5}
		adds(t, x, y)
		kept = append(kept, y)
		refuses(t, x, sees(3, 1), n/5-1, api.ErrArg)
	}
	has(t, x, kept, 20)
}

// Where several errors hold: of nil first, then that it is full, then all others.
func TestOrderOfErrors(t *testing.T) {
	for _, s := range append(wrong(), sees(1), sees(500, 1), sees(500)) {
		for _, at := range []int64{deep, 0, far} {
			refuses(t, nil, s, at, api.ErrNone)
			x := made(t, 1, 64)
			refuses(t, x, s, at, api.ErrFull)
			x = made(t, 137, 200)
			refuses(t, x, s, at, api.ErrFull)
			hasPlain(t, x, 137, 200)
		}
	}
}

// What is refused changes nothing, however often: the next one's number neither.
func TestRefusedChangesNothing(t *testing.T) {
	for _, s := range spans() {
		x := made(t, s.from, s.to)
		want := api.ErrArg
		if s.to-s.from+1 == api.MaxTicks {
			want = api.ErrFull
		}
		for range 100 {
			refuses(t, x, sees(0), far, want)
			if s.to > 0 {
				refuses(t, x, sees(far), plain(s.to).At-1, want)
				refuses(t, x, sees(far, 1), far, want)
				refuses(t, x, sees(1), far, want)
			}
		}
		hasPlain(t, x, s.from, s.to)
		x.Trim(s.to)
		adds(t, x, plain(s.to+1))
		if s.to > 0 {
			hasPlain(t, x, s.to, s.to+1)
		}
	}
}
