package snap_test

import (
	"math"
	"slices"
	"testing"

	"carrier/api"
	"carrier/snap"
)

// long is a list of n numbers, neither rising nor unlike.
func long(n int) []int64 {
	l := make([]int64, n)
	for i := range l {
		l[i] = int64(i*7919%1000) - 100
	}
	return l
}

// anyone are snapshots of all kinds, most of them not Right.
func anyone() []api.Snapshot {
	var all []api.Snapshot
	for _, m := range []int64{math.MinInt64, math.MinInt64 + 1, -1, 0, 1, 2, 5, 1 << 40, far - 1, far} {
		for _, open := range [][]int64{
			nil, {}, {1}, {4}, {5}, {0}, {-1}, {1, 4}, {2, 2}, {4, 2}, {6, 9}, {0, 1, 2}, {-3, 3, -3},
			{far}, {far - 1}, {math.MinInt64}, {math.MinInt64, far}, {far, math.MinInt64}, long(5000),
		} {
			all = append(all, at(m, open...))
		}
	}
	return all
}

// Least and Covers are promised of Right ones alone: of others that they end.
func TestAnySnapshot(t *testing.T) {
	all := anyone()
	for _, a := range all {
		snap.Least(a)
		snap.Right(a)
		for _, x := range []int64{math.MinInt64, -1, 0, 1, 2, 4, 5, far - 1, far} {
			want := x >= 1 && x < a.Max && slices.Index(a.Open, x) < 0
			if snap.Sees(a, x) != want {
				t.Errorf("%v, %d: not %t", a, x, want)
			}
		}
		for _, b := range all {
			snap.Covers(a, b)
			want := a.Max == b.Max && len(a.Open) == len(b.Open)
			for i := 0; want && i < len(a.Open); i++ {
				want = a.Open[i] == b.Open[i]
			}
			if snap.Same(a, b) != want {
				t.Errorf("%v, %v: not %t", a, b, want)
			}
		}
	}
}

// Neither Open itself is written into, nor what its list has room for behind it.
func TestWhatIsHandedInStays(t *testing.T) {
	for _, whole := range [][]int64{{1, 2, 3, 4, 5, 6, 7, 8}, {8, 7, 6, 5, 4, 3, 2, 1}, {3, 3, 0, -1, 9, 9, 2, 2}} {
		one, other := slices.Clone(whole), slices.Clone(whole)
		for n := range len(whole) + 1 {
			for k := range len(whole) + 1 {
				for _, m := range []int64{-1, 0, 1, 5, 9, far} {
					a, b := api.Snapshot{Max: m, Open: one[:n]}, api.Snapshot{Max: 6, Open: other[:k]}
					snap.Right(a)
					snap.Sees(a, 3)
					snap.Least(a)
					snap.Covers(a, b)
					snap.Covers(b, a)
					snap.Same(a, b)
				}
			}
		}
		if !slices.Equal(one, whole) || !slices.Equal(other, whole) {
			t.Error(one, other, whole)
		}
	}
}

// Two snapshots may have one list: each is asked as if it had its own.
func TestListsMayBeShared(t *testing.T) {
	open := []int64{2, 4, 5}
	a, b := api.Snapshot{Max: 6, Open: open}, api.Snapshot{Max: 5, Open: open[:2]}
	if !snap.Same(a, a) || snap.Same(a, b) || !snap.Covers(a, b) || !snap.Covers(b, a) || !snap.Covers(a, a) {
		t.Error(a, b)
	}
}

// What is answered is of what was handed in just then: nothing is kept.
func TestNothingIsKept(t *testing.T) {
	s, of := at(6, 2, 4), at(6, 2, 4)
	if !snap.Same(s, of) || !snap.Covers(s, of) || snap.Sees(s, 2) || snap.Least(s) != 2 || !snap.Right(s) {
		t.Error(s)
	}
	s.Open[0] = 3
	if snap.Same(s, of) || snap.Covers(s, of) || !snap.Sees(s, 2) || snap.Sees(s, 3) || snap.Least(s) != 3 || !snap.Right(s) {
		t.Error(s)
	}
	s.Open[0] = 5
	if snap.Right(s) || snap.Sees(s, 5) {
		t.Error(s)
	}
	s.Open[0], s.Max = 2, 7
	if snap.Same(s, of) || !snap.Covers(s, of) || snap.Covers(of, s) || !snap.Sees(s, 6) {
		t.Error(s)
	}
}
