package snap_test

import (
	"fmt"
	"math"
	"slices"
	"testing"

	"carrier/api"
	"carrier/snap"
)

const far = math.MaxInt64

func at(most int64, open ...int64) api.Snapshot {
	return api.Snapshot{Max: most, Open: open}
}

// right are all Right snapshots with a Max up to most: of each Max all that may be open, by choosing of each number from 1 on.
func right(most int64) []api.Snapshot {
	var all []api.Snapshot
	for m := int64(1); m <= most; m++ {
		for chosen := range 1 << (m - 1) {
			s := at(m)
			for x := int64(1); x < m; x++ {
				if chosen>>(x-1)&1 == 1 {
					s.Open = append(s.Open, x)
				}
			}
			all = append(all, s)
		}
	}
	return all
}

// lists are all lists of at most n of the numbers from low to high, in any order, like ones among them.
func lists(n int, low, high int64) [][]int64 {
	all := [][]int64{nil}
	shorter := all
	for range n {
		var longer [][]int64
		for _, l := range shorter {
			for x := low; x <= high; x++ {
				longer = append(longer, append(slices.Clone(l), x))
			}
		}
		all = append(all, longer...)
		shorter = longer
	}
	return all
}

// small are all snapshots with a Max from -1 to 5 and at most three Open of the numbers from -1 to 6.
func small() []api.Snapshot {
	var all []api.Snapshot
	for _, open := range lists(3, -1, 6) {
		for m := int64(-1); m <= 5; m++ {
			all = append(all, at(m, open...))
		}
	}
	return all
}

func TestRight(t *testing.T) {
	for _, c := range []struct {
		name string
		s    api.Snapshot
		want bool
	}{
		{"the least Max", at(1), true},
		{"Max 0", at(0), false},
		{"Max below 0", at(-1), false},
		{"the least number as Max", at(math.MinInt64), false},
		{"the greatest Max", at(far), true},
		{"empty Open", api.Snapshot{Max: 1, Open: []int64{}}, true},
		{"the zero value", api.Snapshot{}, false},
		{"1 is open", at(5, 1), true},
		{"Max - 1 is open", at(5, 4), true},
		{"the ends are open", at(5, 1, 4), true},
		{"all are open", at(5, 1, 2, 3, 4), true},
		{"1 is open, of 1", at(2, 1), true},
		{"Max is open", at(5, 5), false},
		{"one above Max is open", at(5, 6), false},
		{"Max is open, behind another one", at(5, 2, 5), false},
		{"Max 1, 1 is open", at(1, 1), false},
		{"Max 0, 0 is open", at(0, 0), false},
		{"Max 0, -1 is open", at(0, -1), false},
		{"0 is open", at(5, 0), false},
		{"0 is open, ahead of another one", at(5, 0, 2), false},
		{"one below 0 is open", at(5, -1), false},
		{"the least number is open", at(5, math.MinInt64), false},
		{"two like ones", at(5, 2, 2), false},
		{"two like ones at the beginning", at(5, 1, 1, 3), false},
		{"two like ones at the end", at(5, 1, 4, 4), false},
		{"two that fall", at(5, 4, 2), false},
		{"two that fall behind one that rises", at(9, 2, 5, 4), false},
		{"rising, but for the first one", at(9, 4, 2, 5), false},
		{"the greatest Max, the one below it is open", at(far, 1, far-1), true},
		{"the greatest Max is open", at(far, 1, far), false},
	} {
		t.Run(c.name, func(t *testing.T) {
			if snap.Right(c.s) != c.want {
				t.Error(c.s)
			}
		})
	}
}

func TestRightOfAllSmallOnes(t *testing.T) {
	isRight := map[string]bool{}
	for _, s := range right(5) {
		isRight[fmt.Sprint(s)] = true
	}
	for _, s := range small() {
		if snap.Right(s) != isRight[fmt.Sprint(s)] {
			t.Error(s)
		}
	}
	for _, s := range right(9) {
		if !snap.Right(s) {
			t.Error(s)
		}
	}
}

func TestSees(t *testing.T) {
	for _, c := range []struct {
		name      string
		s         api.Snapshot
		seen, not []int64
	}{
		{"of the document", at(5, 2), []int64{1, 3, 4}, []int64{-1, 0, 2, 5, 6}},
		{"none is open", at(4), []int64{1, 2, 3}, []int64{math.MinInt64, -1, 0, 4, 5, far}},
		{"the ends are open", at(5, 1, 4), []int64{2, 3}, []int64{0, 1, 4, 5}},
		{"all are open", at(4, 1, 2, 3), nil, []int64{0, 1, 2, 3, 4}},
		{"Max 1", at(1), nil, []int64{-1, 0, 1, 2, far}},
		{"Max 2", at(2), []int64{1}, []int64{0, 2}},
		{"Max 0", at(0), nil, []int64{math.MinInt64, -1, 0, 1, far}},
		{"Max below 0", at(-5), nil, []int64{math.MinInt64, -6, -5, -4, 0, 1, far}},
		{"the greatest Max", at(far, 7), []int64{1, 6, 8, far - 1}, []int64{math.MinInt64, 0, 7, far}},
		{"the greatest Max, the one below it is open", at(far, far-1), []int64{1, far - 2}, []int64{far - 1, far}},
		{"Open falls", at(7, 5, 3, 1), []int64{2, 4, 6}, []int64{0, 1, 3, 5, 7}},
		{"like ones", at(5, 2, 2, 2), []int64{1, 3, 4}, []int64{2}},
		{"like ones ahead of another one", at(5, 2, 2, 4, 3), []int64{1}, []int64{2, 3, 4}},
		{"Open below 1 and above Max", at(4, -1, 0, 9, 4, 2), []int64{1, 3}, []int64{-1, 0, 2, 4, 9}},
	} {
		t.Run(c.name, func(t *testing.T) {
			for _, x := range c.seen {
				if !snap.Sees(c.s, x) {
					t.Errorf("%v doesn't see %d", c.s, x)
				}
			}
			for _, x := range c.not {
				if snap.Sees(c.s, x) {
					t.Errorf("%v sees %d", c.s, x)
				}
			}
		})
	}
}

func TestSeesOfAllSmallOnes(t *testing.T) {
	for _, s := range small() {
		seen := map[int64]bool{}
		for x := int64(1); x < s.Max; x++ {
			seen[x] = true
		}
		for _, x := range s.Open {
			delete(seen, x)
		}
		for _, x := range []int64{math.MinInt64, -2, -1, 0, 1, 2, 3, 4, 5, 6, 7, far} {
			if snap.Sees(s, x) != seen[x] {
				t.Errorf("%v, %d", s, x)
			}
		}
	}
}

func TestLeast(t *testing.T) {
	for _, c := range []struct {
		s    api.Snapshot
		want int64
	}{
		{at(5, 2), 2},
		{at(1), 1},
		{at(6), 6},
		{api.Snapshot{Max: 6, Open: []int64{}}, 6},
		{at(6, 1), 1},
		{at(6, 5), 5},
		{at(6, 2, 3, 5), 2},
		{at(2, 1), 1},
		{at(far), far},
		{at(far, far-1), far - 1},
		{at(far, 1, far-1), 1},
	} {
		if got := snap.Least(c.s); got != c.want {
			t.Errorf("%v: %d, not %d", c.s, got, c.want)
		}
	}
}

// Below it all are seen, and itself is not.
func TestLeastOfAllSmallOnes(t *testing.T) {
	for _, s := range right(9) {
		least := int64(1)
		for snap.Sees(s, least) {
			least++
		}
		if got := snap.Least(s); got != least {
			t.Errorf("%v: %d, not %d", s, got, least)
		}
	}
}

func TestSame(t *testing.T) {
	for _, c := range []struct {
		name string
		a, b api.Snapshot
		want bool
	}{
		{"like ones", at(5, 2, 4), at(5, 2, 4), true},
		{"none is open", at(5), at(5), true},
		{"nil and empty", at(5), api.Snapshot{Max: 5, Open: []int64{}}, true},
		{"the zero value", api.Snapshot{}, api.Snapshot{Open: []int64{}}, true},
		{"another Max", at(5, 2), at(6, 2), false},
		{"another Max, none is open", at(5), at(6), false},
		{"another Open", at(5, 2), at(5, 3), false},
		{"another Open at the end", at(9, 2, 4, 6), at(9, 2, 4, 7), false},
		{"one more", at(5, 2), at(5, 2, 4), false},
		{"one ahead", at(5, 2), at(5, 1, 2), false},
		{"one, and none", at(5), at(5, 2), false},
		{"they see the same, but by another Max", at(5), at(6, 5), false},
		{"not Right, alike", at(-5, 4, 2, 2), at(-5, 4, 2, 2), true},
		{"not Right, in another order", at(5, 4, 2), at(5, 2, 4), false},
		{"not Right, one more of like ones", at(5, 2, 2), at(5, 2), false},
		{"not Right, another Max", at(0, 9), at(-1, 9), false},
		{"the greatest ones", at(far, 1, far-1), at(far, 1, far-1), true},
		{"the greatest Max, and the least number", at(far), at(math.MinInt64), false},
	} {
		t.Run(c.name, func(t *testing.T) {
			if snap.Same(c.a, c.b) != c.want || snap.Same(c.b, c.a) != c.want {
				t.Error(c.a, c.b)
			}
		})
	}
}

func TestSameOfAllSmallOnes(t *testing.T) {
	var all []api.Snapshot
	for _, open := range lists(2, 0, 4) {
		for m := int64(-1); m <= 4; m++ {
			all = append(all, at(m, open...))
		}
	}
	for i, a := range all {
		for j, b := range all {
			b.Open = slices.Clone(b.Open)
			if snap.Same(a, b) != (i == j) {
				t.Error(a, b)
			}
		}
	}
}
