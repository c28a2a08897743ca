package snap_test

import (
	"testing"

	"carrier/api"
	"carrier/snap"
)

func TestCovers(t *testing.T) {
	for _, c := range []struct {
		name string
		a, b api.Snapshot
		want bool
	}{
		{"like ones", at(6, 2, 4), at(6, 2, 4), true},
		{"the least ones", at(1), at(1), true},
		{"a greater Max", at(6), at(5), true},
		{"a smaller Max", at(5), at(6), false},
		{"fewer are open", at(6, 2), at(6, 2, 4), true},
		{"more are open", at(6, 2, 4), at(6, 2), false},
		{"another one is open", at(6, 2), at(6, 4), false},
		{"a greater Max, one of b's is open", at(9, 3), at(5), false},
		{"a greater Max, one that neither sees", at(9, 3), at(5, 3), true},
		{"a greater Max, open just below b's Max", at(9, 4), at(5), false},
		{"a greater Max, open just at b's Max", at(9, 5), at(5), true},
		{"a greater Max, open above b's Max", at(9, 7), at(5), true},
		{"b sees none", at(1), at(4, 1, 2, 3), true},
		{"b sees none, nor does a", at(4, 1, 2, 3), at(1), true},
		{"b sees none, but the last one", at(1), at(5, 1, 2, 3), false},
		{"b sees none, but the first one", at(1), at(5, 2, 3, 4), false},
		{"b sees none, but one within", at(1), at(5, 1, 2, 4), false},
		{"b's from a's Max on are open", at(5), at(7, 5, 6), true},
		{"b's one from a's Max on is open", at(5), at(6, 5), true},
		{"b's last one is not open", at(5), at(7, 5), false},
		{"b's at a's Max is not open", at(5), at(7, 6), false},
		{"as many of b's are open, but one below a's Max", at(5), at(7, 4, 6), false},
		{"more of b's are open", at(5, 2), at(7, 1, 2, 5, 6), true},
		{"b's from a's Max on are open, one of a's isn't", at(5, 2), at(7, 1, 5, 6), false},
	} {
		t.Run(c.name, func(t *testing.T) {
			if snap.Covers(c.a, c.b) != c.want {
				t.Error(c.a, c.b)
			}
		})
	}
}

// seesAll goes number by number: does a see all that b sees?
func seesAll(a, b api.Snapshot) bool {
	for x := int64(1); x < b.Max; x++ {
		if snap.Sees(b, x) && !snap.Sees(a, x) {
			return false
		}
	}
	return true
}

func TestCoversNumberByNumber(t *testing.T) {
	all := right(8)
	beyond := 0
	for _, a := range all {
		for _, b := range all {
			want := seesAll(a, b)
			if snap.Covers(a, b) != want {
				t.Fatalf("%v, %v: not %t", a, b, want)
			}
			if want && b.Max > a.Max {
				beyond++
			}
		}
	}
	if beyond == 0 {
		t.Error("there was no b with a greater Max")
	}
}

// moved is s with all its numbers so much above: below them it sees all.
func moved(s api.Snapshot, by int64) api.Snapshot {
	m := at(s.Max + by)
	for _, x := range s.Open {
		m.Open = append(m.Open, x+by)
	}
	return m
}

// Both see the same of what lies below, so the answer stays what it was.
func TestCoversFarAway(t *testing.T) {
	all := right(6)
	for _, by := range []int64{1, 1000, 1 << 31, 1 << 32, 1<<62 - 1, far - 6} {
		for _, a := range all {
			for _, b := range all {
				want := seesAll(a, b)
				c, d := moved(a, by), moved(b, by)
				if !snap.Right(c) || !snap.Right(d) {
					t.Fatal(c, d)
				}
				if snap.Covers(c, d) != want {
					t.Fatalf("%v, %v: not %t", c, d, want)
				}
			}
		}
	}
}

func TestCoversFarApart(t *testing.T) {
	for _, c := range []struct {
		a, b api.Snapshot
		want bool
	}{
		{at(far), at(1), true},
		{at(1), at(far), false},
		{at(far), at(far), true},
		{at(far), at(far - 1), true},
		{at(far - 1), at(far), false},
		{at(far - 1), at(far, far-1), true},
		{at(far - 2), at(far, far-1), false},
		{at(far - 2), at(far, far-2), false},
		{at(far - 3), at(far, far-3, far-2, far-1), true},
		{at(far, far-1), at(far), false},
		{at(far, far-1), at(far - 1), true},
		{at(far, 1), at(1), true},
		{at(far, 1), at(2), false},
		{at(far, 1), at(2, 1), true},
		{at(far, 1, far-1), at(far, 1, far-1), true},
		{at(far, 1, far-1), at(far, 1), false},
		{at(far, 1), at(far, 1, far-1), true},
		{at(1), at(far, 1), false},
		{at(2, 1), at(far, 1, far-1), false},
	} {
		if snap.Covers(c.a, c.b) != c.want {
			t.Errorf("%v, %v: not %t", c.a, c.b, c.want)
		}
	}
}

// Long lists must not be gone through once for each of their numbers.
func TestCoversOfLongOpen(t *testing.T) {
	const n = 1 << 20
	a := at(n + 1)
	for x := int64(1); x <= n; x++ {
		a.Open = append(a.Open, x)
	}
	b := moved(a, 0)
	last := at(n+1, a.Open[:n-1]...)
	first := at(n+1, a.Open[1:]...)
	for _, c := range []struct {
		name string
		a, b api.Snapshot
		want bool
	}{
		{"like ones", a, b, true},
		{"b sees none", at(1), b, true},
		{"a sees none", a, at(1), true},
		{"b sees the last one", a, last, false},
		{"b sees the first one", a, first, false},
		{"a sees the last one", last, b, true},
		{"a sees the first one", first, b, true},
		{"b sees the last one, a has the least Max", at(1), last, false},
		{"b sees the first one, a has the least Max", at(1), first, false},
		{"far away", moved(a, far-n-1), moved(b, far-n-1), true},
	} {
		if !snap.Right(c.a) || !snap.Right(c.b) || snap.Covers(c.a, c.b) != c.want {
			t.Error(c.name)
		}
	}
}
