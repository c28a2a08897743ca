package tick_test

import (
	"testing"

	"carrier/api"
	"carrier/tick"
)

// anyone are snapshots of all kinds, most of them not Right.
func anyone() []api.Snapshot {
	all := append(wrong(), right(3)...)
	for _, m := range []int64{deep, deep + 1, -1 << 32, -1, 0, 1, 2, 5, 1 << 32, 1 << 62, far - 1, far} {
		for _, open := range [][]int64{
			nil, {}, {1}, {4}, {0}, {-1}, {1, 4}, {2, 2}, {4, 2}, {6, 9}, {0, 1, 2}, {-3, 3, -3},
			{far}, {far - 1}, {far - 2, far - 1}, {deep}, {deep, far}, {far, deep}, {1 << 62, 1<<62 + 1}, long(700),
		} {
			all = append(all, sees(m, open...))
		}
	}
	return all
}

// long is a list of n numbers, neither rising nor unlike.
func long(n int) []int64 {
	l := make([]int64, n)
	for i := range l {
		l[i] = int64(i*7919%1000) - 100
	}
	return l
}

// Of any ticks, whatever they are told, each call ends, and tells what it may.
func TestAnyCall(t *testing.T) {
	all := anyone()
	for _, sp := range append(spans(), span{-1, -1}) { // the last one: of nil
		for i, s := range all {
			var x *tick.Ticks
			if sp.to >= 0 {
				x = made(t, sp.from, sp.to)
			}
			for j, n := range numbers(0) {
				was, had := x.Last(), x.Len()
				y, e := x.Add(s, n)
				if e == api.OK && (y.N != was+1 || x.Last() != was+1 || x.Len() != had+1) || e != api.OK && (!alike(y, api.Tick{}) || x.Last() != was || x.Len() != had) {
					t.Fatal(sp, short(s), n, short(y), e)
				}
				was, had = x.Last(), x.Len()
				y = api.Tick{N: was + int64((i+j)%3), Snap: all[(i+j)%len(all)], At: n}
				if e := x.Put(y); e == api.OK && (y.N != was+1 || x.Last() != y.N || x.Len() != had+1) || e != api.OK && (x.Last() != was || x.Len() != had) {
					t.Fatal(sp, short(y), e)
				}
				x.Put(api.Tick{N: n, Snap: s, At: n})
				asks(t, x, n)
			}
		}
	}
}

// asks tells a fault if Get and After tell what can't be, or Trim lets go what it must keep.
func asks(t *testing.T, x *tick.Ticks, n int64) {
	t.Helper()
	if y, ok := x.Get(n); ok != (y.N != 0) || ok && y.N != n || n > x.Last() && ok {
		t.Fatal(n, short(y), ok)
	}
	if y, ok := x.After(n); ok != (y.N != 0) || ok && y.N <= n || ok != (x.Len() > 0 && n < x.Last()) {
		t.Fatal(n, short(y), ok)
	}
	last, had := x.Last(), x.Len()
	gone := x.Trim(n)
	if gone < 0 || gone > 0 && gone >= had || x.Len() != had-gone || x.Last() != last {
		t.Fatal(n, gone, had, x.Len())
	}
}

// Snapshots with very many Open ones.
func TestManyOpen(t *testing.T) {
	const many = 1 << 18
	s := sees(2*many + 1)
	for n := int64(1); n <= many; n++ {
		s.Open = append(s.Open, 2*n)
	}
	x := tick.New()
	var kept []api.Tick
	for n := int64(1); n <= 5; n++ {
		y := api.Tick{N: n, Snap: s, At: n}
		adds(t, x, y)
		kept = append(kept, y)
		s = sees(2*many+1, s.Open[n:]...)
	}
	refuses(t, x, kept[0].Snap, 5, api.ErrArg)
	refuses(t, x, sees(2*many+1, s.Open[:many/2]...), 4, api.ErrArg)
	puts(t, x, api.Tick{N: 6, Snap: sees(2 * many), At: 5}, api.OK)
	has(t, x, append(kept, api.Tick{N: 6, Snap: sees(2 * many), At: 5}), 6)
	trims(t, x, far, 5)
}
