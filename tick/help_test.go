package tick_test

import (
	"fmt"
	"math"
	"slices"
	"testing"

	"carrier/api"
	"carrier/tick"
)

const (
	far  = math.MaxInt64
	deep = math.MinInt64
)

func sees(most int64, open ...int64) api.Snapshot {
	return api.Snapshot{Max: most, Open: open}
}

// plain is a tick that may stand at its number, if those ahead of it are plain ones, too: some see what others
// don't, some see the same, and some are of the same moment.
func plain(n int64) api.Tick {
	most := 5 + n/2
	return api.Tick{N: n, Snap: sees(most, 2, most-1), At: 10 + n/3}
}

// plains are the plain ones with the numbers from one to another one.
func plains(from, to int64) []api.Tick {
	var l []api.Tick
	for n := from; n <= to; n++ {
		l = append(l, plain(n))
	}
	return l
}

// copied is a list that shares nothing with another one.
func copied(l []api.Tick) []api.Tick {
	l = slices.Clone(l)
	for i := range l {
		l[i].Snap.Open = slices.Clone(l[i].Snap.Open)
	}
	return l
}

// alike tells whether two ticks are the same; no open ones may be nil or empty.
func alike(a, b api.Tick) bool {
	return a.N == b.N && a.At == b.At && a.Snap.Max == b.Snap.Max && slices.Equal(a.Snap.Open, b.Snap.Open)
}

// short is a value's text, with as much of it as there is room for.
func short(x any) string {
	return fmt.Sprintf("%.300s", fmt.Sprint(x))
}

// numbers are those that one may ask for: all near to those that are kept, and all edges.
func numbers(last int64) []int64 {
	l := []int64{deep, deep + 1, -1 << 32, -1<<32 + 1, -2, -1, 0, 1, 2, 1 << 32, 1<<32 + 1, 1<<32 + last, 1<<8 + last, far - 1, far}
	for n := max(1, last-api.MaxTicks-2); n <= last+3; n++ {
		l = append(l, n)
	}
	return l
}

// has tells a fault if any call that just looks tells something else than that those are kept (rising), and that
// last is the last one.
func has(t *testing.T, x *tick.Ticks, kept []api.Tick, last int64) {
	t.Helper()
	if x.Len() != len(kept) || x.Last() != last {
		t.Fatalf("Len, Last: %d, %d, not %d, %d", x.Len(), x.Last(), len(kept), last)
	}
	for _, n := range numbers(last) {
		var this, next api.Tick
		for _, k := range slices.Backward(kept) {
			if k.N == n {
				this = k
			}
			if k.N > n {
				next = k
			}
		}
		if got, ok := x.Get(n); ok != (this.N > 0) || !alike(got, this) {
			t.Fatalf("Get(%d): %s, %t, not %s", n, short(got), ok, short(this))
		}
		if got, ok := x.After(n); ok != (next.N > 0) || !alike(got, next) {
			t.Fatalf("After(%d): %s, %t, not %s", n, short(got), ok, short(next))
		}
	}
}

// hasPlain tells a fault if not just the plain ones with the numbers from one to another one are kept.
func hasPlain(t *testing.T, x *tick.Ticks, from, to int64) {
	t.Helper()
	has(t, x, plains(from, to), to)
}

// adds tells a fault if a tick can't be added, or is told otherwise than it is.
func adds(t *testing.T, x *tick.Ticks, want api.Tick) {
	t.Helper()
	if got, e := x.Add(want.Snap, want.At); e != api.OK || !alike(got, want) {
		t.Fatalf("Add: %s, %d, not %s", short(got), e, short(want))
	}
}

// refuses tells a fault if Add, or Put of the next number, tells anything but that error.
func refuses(t *testing.T, x *tick.Ticks, s api.Snapshot, at int64, want api.Errno) {
	t.Helper()
	if got, e := x.Add(s, at); e != want || !alike(got, api.Tick{}) {
		t.Fatalf("Add(%s, %d): %s, %d, not %d", short(s), at, short(got), e, want)
	}
	puts(t, x, api.Tick{N: x.Last() + 1, Snap: s, At: at}, want)
}

// puts tells a fault if Put tells another error.
func puts(t *testing.T, x *tick.Ticks, y api.Tick, want api.Errno) {
	t.Helper()
	if e := x.Put(y); e != want {
		t.Fatalf("Put(%s): %d, not %d", short(y), e, want)
	}
}

// trims tells a fault if Trim tells another count.
func trims(t *testing.T, x *tick.Ticks, below int64, want int) {
	t.Helper()
	if n := x.Trim(below); n != want {
		t.Fatalf("Trim(%d): %d, not %d", below, n, want)
	}
}

// made is ticks of which the plain ones with the numbers from one to another one are kept; from 1 to 0: none.
func made(t *testing.T, from, to int64) *tick.Ticks {
	t.Helper()
	x := tick.New()
	for n := int64(1); n <= to; n++ {
		x.Trim(min(n-1, from))
		adds(t, x, plain(n))
	}
	x.Trim(from)
	hasPlain(t, x, from, to)
	return x
}

// span is the numbers of the first and of the last one that is kept.
type span struct{ from, to int64 }

// spans are those of ticks of which there was none, with a few that are kept, with as many as may be, and with
// some that were let go.
func spans() []span {
	return []span{{1, 0}, {1, 1}, {1, 2}, {1, 9}, {1, 63}, {1, 64}, {2, 2}, {2, 3}, {5, 9}, {9, 9}, {2, 64}, {64, 64}, {2, 65}, {65, 65}, {90, 130}, {137, 200}}
}

// right are all Right snapshots with a Max up to most: of each Max all that may be open.
func right(most int64) []api.Snapshot {
	var all []api.Snapshot
	for m := int64(1); m <= most; m++ {
		for chosen := range 1 << (m - 1) {
			s := sees(m)
			for x := int64(1); x < m; x++ {
				if chosen>>(x-1)&1 == 1 {
					s.Open = append(s.Open, x)
				}
			}
			all = append(all, s)
		}
	}
	return all
}

// wrong are snapshots that aren't Right; those of them with a great Max see all that a Right one with a small one sees.
func wrong() []api.Snapshot {
	return []api.Snapshot{
		{}, sees(0), sees(-1), sees(deep), sees(0, 1), sees(-1, -2), sees(1, 1), sees(1, 0), sees(2, 2),
		sees(500, 0), sees(500, -1), sees(500, deep), sees(500, 500), sees(500, 501), sees(500, far), sees(500, 400, 500),
		sees(500, 400, 400), sees(500, 401, 400), sees(500, 300, 300, 400), sees(500, 300, 400, 400),
		sees(500, 400, 300, 450), sees(500, 300, 450, 400), sees(500, 0, 400), sees(500, -1, 400),
		sees(far, far), sees(far, 400, far), sees(far, far-1, 400), sees(deep, deep), sees(deep, far), sees(far, deep),
	}
}

// seesAll goes number by number: does a see all that b sees?
func seesAll(a, b api.Snapshot) bool {
	for x := int64(1); x < b.Max; x++ {
		if !slices.Contains(b.Open, x) && (x >= a.Max || slices.Contains(a.Open, x)) {
			return false
		}
	}
	return true
}
