package tick_test

import (
	"testing"

	"carrier/api"
	"carrier/tick"
)

// Get tells those that are kept, and no others; After the next one: of all numbers.
func TestGetAndAfter(t *testing.T) {
	for _, s := range spans() {
		hasPlain(t, made(t, s.from, s.to), s.from, s.to)
	}
}

func TestGet(t *testing.T) {
	x := made(t, 3, 6)
	for _, n := range []int64{deep, deep + 1, -6, -3, -1, 0, 1, 2, 7, 8, 67, 1<<32 + 3, -1<<32 + 3, far - 1, far} {
		if y, ok := x.Get(n); ok || !alike(y, api.Tick{}) {
			t.Error(n, y, ok)
		}
	}
	for n := int64(3); n <= 6; n++ {
		if y, ok := x.Get(n); !ok || !alike(y, plain(n)) {
			t.Error(n, y, ok)
		}
	}
}

func TestAfter(t *testing.T) {
	x := made(t, 3, 6)
	for n, want := range map[int64]int64{deep: 3, deep + 1: 3, -1 << 32: 3, -1: 3, 0: 3, 1: 3, 2: 3, 3: 4, 4: 5, 5: 6} {
		if y, ok := x.After(n); !ok || !alike(y, plain(want)) {
			t.Error(n, y, ok, want)
		}
	}
	for _, n := range []int64{6, 7, 8, 66, 1 << 32, 1<<32 + 3, far - 1, far} {
		if y, ok := x.After(n); ok || !alike(y, api.Tick{}) {
			t.Error(n, y, ok)
		}
	}
}

// From one to the next one: all that are kept are met, each once.
func TestAfterOneByOne(t *testing.T) {
	for _, s := range spans() {
		x := made(t, s.from, s.to)
		n := int64(0)
		for want := s.from; want <= s.to; want++ {
			y, ok := x.After(n)
			if !ok || !alike(y, plain(want)) {
				t.Fatal(s, n, y, ok)
			}
			n = y.N
		}
		if y, ok := x.After(n); ok {
			t.Fatal(s, n, y)
		}
	}
}

func TestTrim(t *testing.T) {
	for _, c := range []struct {
		was   span
		below int64
		n     int
		is    span
	}{
		{span{1, 0}, 0, 0, span{1, 0}},
		{span{1, 0}, 1, 0, span{1, 0}},
		{span{1, 0}, far, 0, span{1, 0}},
		{span{1, 1}, 1, 0, span{1, 1}},
		{span{1, 1}, 2, 0, span{1, 1}},
		{span{1, 1}, far, 0, span{1, 1}},
		{span{1, 2}, 1, 0, span{1, 2}},
		{span{1, 2}, 2, 1, span{2, 2}},
		{span{1, 2}, 3, 1, span{2, 2}},
		{span{3, 8}, deep, 0, span{3, 8}},
		{span{3, 8}, deep + 1, 0, span{3, 8}},
		{span{3, 8}, -1, 0, span{3, 8}},
		{span{3, 8}, 0, 0, span{3, 8}},
		{span{3, 8}, 2, 0, span{3, 8}},
		{span{3, 8}, 3, 0, span{3, 8}},
		{span{3, 8}, 4, 1, span{4, 8}},
		{span{3, 8}, 7, 4, span{7, 8}},
		{span{3, 8}, 8, 5, span{8, 8}},
		{span{3, 8}, 9, 5, span{8, 8}},
		{span{3, 8}, 10, 5, span{8, 8}},
		{span{3, 8}, 1 << 32, 5, span{8, 8}},
		{span{3, 8}, 1<<32 + 4, 5, span{8, 8}},
		{span{3, 8}, -1<<32 + 4, 0, span{3, 8}},
		{span{3, 8}, far - 1, 5, span{8, 8}},
		{span{3, 8}, far, 5, span{8, 8}},
		{span{1, 64}, 64, 63, span{64, 64}},
		{span{1, 64}, 33, 32, span{33, 64}},
		{span{1, 64}, far, 63, span{64, 64}},
		{span{137, 200}, 138, 1, span{138, 200}},
		{span{137, 200}, 1000, 63, span{200, 200}},
	} {
		x := made(t, c.was.from, c.was.to)
		for _, n := range []int{c.n, 0, 0} { // again: there is nothing left to let go
			trims(t, x, c.below, n)
			hasPlain(t, x, c.is.from, c.is.to)
		}
	}
}

// At any number: just those below it go, but not the last one.
func TestTrimAtAnyNumber(t *testing.T) {
	for _, s := range spans() {
		for _, below := range numbers(s.to) {
			x := made(t, s.from, s.to)
			from := max(s.from, min(below, s.to))
			trims(t, x, below, int(from-s.from))
			hasPlain(t, x, from, s.to)
			trims(t, x, below, 0)
			hasPlain(t, x, from, s.to)
		}
	}
}

func TestTrimOneByOne(t *testing.T) {
	x := made(t, 1, 64)
	for n := int64(2); n <= 64; n++ {
		trims(t, x, n, 1)
		hasPlain(t, x, n, 64)
		trims(t, x, n-1, 0) // nothing comes back
		hasPlain(t, x, n, 64)
	}
	trims(t, x, 65, 0)
	hasPlain(t, x, 64, 64)
}

func TestPut(t *testing.T) {
	for _, s := range spans() {
		if s.to-s.from+1 == api.MaxTicks {
			continue
		}
		x := made(t, s.from, s.to)
		for _, n := range append(numbers(s.to), s.to+2, -s.to-1) {
			if n != s.to+1 {
				y := plain(s.to + 1)
				y.N = n
				puts(t, x, y, api.ErrArg)
			}
		}
		hasPlain(t, x, s.from, s.to)
		puts(t, x, plain(s.to+1), api.OK)
		hasPlain(t, x, s.from, s.to+1)
		puts(t, x, plain(s.to+1), api.ErrArg) // it is there already
		hasPlain(t, x, s.from, s.to+1)
	}
}

// The number is asked for ahead of all else; then all is as of Add.
func TestOrderOfErrorsOfPut(t *testing.T) {
	for _, s := range spans() {
		x := made(t, s.from, s.to)
		want := api.ErrArg
		if s.to-s.from+1 == api.MaxTicks {
			want = api.ErrFull
		}
		for _, n := range []int64{deep, -1, 0, s.from, s.to, s.to + 1, s.to + 2, 1<<32 + s.to + 1, far} {
			wantOf := want
			if n != s.to+1 {
				wantOf = api.ErrArg
			}
			for _, w := range wrong() {
				puts(t, x, api.Tick{N: n, Snap: w, At: far}, wantOf)
			}
			if s.to > 0 {
				puts(t, x, api.Tick{N: n, Snap: sees(1), At: far}, wantOf)
				puts(t, x, api.Tick{N: n, Snap: sees(far, 1), At: far}, wantOf)
				puts(t, x, api.Tick{N: n, Snap: sees(far), At: plain(s.to).At - 1}, wantOf)
			}
			if wantOf == api.ErrFull || n != s.to+1 {
				puts(t, x, api.Tick{N: n, Snap: sees(far), At: far}, wantOf)
			}
		}
		hasPlain(t, x, s.from, s.to)
	}
}

// Ticks that were put are as those that were added: one goes behind the other.
func TestPutAndAddByTurns(t *testing.T) {
	x := tick.New()
	for n := int64(1); n <= 64; n++ {
		if n%3 == 0 {
			adds(t, x, plain(n))
		} else {
			puts(t, x, plain(n), api.OK)
		}
		hasPlain(t, x, 1, n)
	}
	puts(t, x, plain(65), api.ErrFull)
	trims(t, x, 2, 1)
	puts(t, x, plain(65), api.OK)
	hasPlain(t, x, 2, 65)
}

// All that one has is put into another one, as it is kept.
func TestPutOfWhatAnotherOneTells(t *testing.T) {
	x := made(t, 1, 64)
	y := tick.New()
	for next, ok := x.After(0); ok; next, ok = x.After(y.Last()) {
		puts(t, y, next, api.OK)
	}
	hasPlain(t, y, 1, 64)
}

// Last and Len, behind each of the other calls.
func TestLastAndLen(t *testing.T) {
	x := tick.New()
	for i, step := range []struct {
		done func()
		last int64
		n    int
	}{
		{func() {}, 0, 0},
		{func() { x.Trim(far) }, 0, 0},
		{func() { x.After(0) }, 0, 0},
		{func() { x.Put(plain(2)) }, 0, 0},
		{func() { x.Add(sees(0), 0) }, 0, 0},
		{func() { x.Add(plain(1).Snap, plain(1).At) }, 1, 1},
		{func() { x.Trim(far) }, 1, 1},
		{func() { x.Put(plain(2)) }, 2, 2},
		{func() { x.Put(plain(2)) }, 2, 2},
		{func() { x.Put(plain(4)) }, 2, 2},
		{func() { x.Add(sees(1), far) }, 2, 2},
		{func() { x.Add(plain(3).Snap, plain(3).At) }, 3, 3},
		{func() { x.Get(1) }, 3, 3},
		{func() { x.After(2) }, 3, 3},
		{func() { x.Trim(1) }, 3, 3},
		{func() { x.Trim(2) }, 3, 2},
		{func() { x.Get(1) }, 3, 2},
		{func() { x.Trim(far) }, 3, 1},
		{func() { x.Trim(far) }, 3, 1},
		{func() { x.Put(plain(4)) }, 4, 2},
		{func() { x.Trim(4) }, 4, 1},
		{func() { x.Trim(deep) }, 4, 1},
		{func() { x.Add(plain(5).Snap, plain(5).At) }, 5, 2},
	} {
		step.done()
		if x.Last() != step.last || x.Len() != step.n {
			t.Fatal(i, x.Last(), x.Len(), step.last, step.n)
		}
	}
	hasPlain(t, x, 4, 5)
}

func TestOfNil(t *testing.T) {
	var x *tick.Ticks
	for range 2 {
		has(t, x, nil, 0)
		for _, n := range numbers(1) {
			trims(t, x, n, 0)
			puts(t, x, api.Tick{N: n, Snap: sees(1), At: n}, api.ErrNone)
			puts(t, x, api.Tick{N: n}, api.ErrNone)
			refuses(t, x, sees(1), n, api.ErrNone)
			refuses(t, x, sees(n), 0, api.ErrNone)
		}
	}
}
