package txn_test

import (
	"slices"
	"strings"
	"testing"

	"carrier/api"
	"carrier/txn"
)

// before are what had become of a manager's transactions ahead of a Load.
var before = []string{"", "o", "c", "a", "oo", "oooooo", "caocao", "ooocaccao", "ccccccccccccccoc"}

// most is as many transactions as there may be.
const most = api.MaxTxid - 1

func TestLoad(t *testing.T) {
	for _, c := range []struct {
		name      string
		next      int64
		committed []int64
		want      string
	}{
		{"the least, nil", 1, nil, ""},
		{"the least, empty", 1, []int64{}, ""},
		{"one, aborted", 2, nil, "a"},
		{"one, committed", 2, []int64{1}, "c"},
		{"all aborted", 6, []int64{}, "aaaaa"},
		{"all committed", 4, []int64{1, 2, 3}, "ccc"},
		{"the ends", 5, []int64{1, 4}, "caac"},
		{"1 alone", 5, []int64{1}, "caaa"},
		{"next - 1 alone", 5, []int64{4}, "aaac"},
		{"falling", 6, []int64{5, 3, 2}, "accac"},
		{"in no order", 7, []int64{4, 6, 1, 3}, "caccac"},
		{"one twice", 4, []int64{2, 2}, "aca"},
		{"all of them twice", 3, []int64{2, 1, 1, 2}, "cc"},
		{"more than may be open", 10, []int64{9}, "aaaaaaaac"},
		{"longer than next", 3, slices.Repeat([]int64{2}, 1000), "ac"},
		{"a long one", 1001, long(1000), strings.Repeat("c", 1000)},
	} {
		t.Run(c.name, func(t *testing.T) {
			for _, was := range before {
				load(t, was, c.next, c.committed, c.want)
			}
		})
	}
}

func TestLoadOfTheMost(t *testing.T) {
	for _, c := range []struct {
		name      string
		next      int64
		committed []int64
		want      string
	}{
		{"none", api.MaxTxid, nil, strings.Repeat("a", most)},
		{"the ends", api.MaxTxid, []int64{most, 1}, "c" + strings.Repeat("a", most-2) + "c"},
		{"all", api.MaxTxid, long(most), strings.Repeat("c", most)},
		{"all thrice", api.MaxTxid, slices.Repeat(long(most), 3), strings.Repeat("c", most)},
		{"one less", most, []int64{most - 1}, strings.Repeat("a", most-2) + "c"},
	} {
		t.Run(c.name, func(t *testing.T) {
			load(t, "oocaccao", c.next, c.committed, c.want)
		})
	}
}

// load holds a Load, of a manager whose transactions had come to something else, against what it must make of them.
func load(t *testing.T, was string, next int64, committed []int64, want string) {
	t.Helper()
	m := made(t, was)
	if e := m.Load(next, committed); e != api.OK {
		t.Fatal(e)
	}
	is(t, m, want)
	goesOn(t, m, want, was)
}

// long are the numbers from n to 1, falling.
func long(n int) []int64 {
	l := make([]int64, n)
	for i := range l {
		l[i] = int64(n - i)
	}
	return l
}

// goesOn: who was open ahead of a Load isn't any more; and the next ones begin as if all had come to this without it.
func goesOn(t *testing.T, m *txn.Manager, want, was string) {
	t.Helper()
	for i := range len(was) {
		for _, end := range ends() {
			if e := end(m, int64(i)+1); e != api.ErrState {
				t.Fatal(i+1, e)
			}
		}
	}
	open := min(api.MaxOpen, api.MaxTxid-m.Next())
	for range open {
		begin(t, m, int64(len(want))+1)
		want += "o"
	}
	full(t, m, want)
	if open == 0 {
		return
	}
	x := int64(len(want))
	if e := m.Commit(x); e != api.OK {
		t.Fatal(e)
	}
	is(t, m, with(want, x, 'c'))
}

func TestLoadRefuses(t *testing.T) {
	for _, c := range []struct {
		name      string
		next      int64
		committed []int64
	}{
		{"next 0", 0, nil},
		{"next 0, and 0", 0, []int64{0}},
		{"next below 0", -1, nil},
		{"next below 0, and 1", -1, []int64{1}},
		{"the least number", deep, nil},
		{"one more than MaxTxid", api.MaxTxid + 1, nil},
		{"one more than MaxTxid, and 1", api.MaxTxid + 1, []int64{1}},
		{"above 32 bits", 1<<32 + 5, []int64{1}},
		{"the greatest number", far, []int64{1, 2}},
		{"1, of none", 1, []int64{1}},
		{"0, of none", 1, []int64{0}},
		{"next", 5, []int64{5}},
		{"above next", 5, []int64{6}},
		{"0", 5, []int64{0}},
		{"below 0", 5, []int64{-1}},
		{"above 32 bits, of few", 5, []int64{1<<32 + 1}},
		{"the least number among them", 5, []int64{deep}},
		{"the greatest number among them", 5, []int64{far}},
		{"next at the end", 5, []int64{1, 2, 3, 4, 5}},
		{"next at the beginning", 5, []int64{5, 4, 3, 2, 1}},
		{"next within", 5, []int64{1, 5, 2}},
		{"0 at the end", 5, []int64{1, 2, 0}},
		{"0 at the beginning", 5, []int64{0, 1, 2}},
		{"0 within", 5, []int64{2, 0, 1}},
		{"both", 5, []int64{0, 5}},
		{"MaxTxid of as many", api.MaxTxid, []int64{1, api.MaxTxid}},
		{"0 of the most", api.MaxTxid, append(long(most), 0)},
	} {
		t.Run(c.name, func(t *testing.T) {
			for _, was := range before {
				m := made(t, was)
				if e := m.Load(c.next, c.committed); e != api.ErrArg {
					t.Fatal(e)
				}
				is(t, m, was)
				stillWorks(t, m, was)
			}
		})
	}
}

// stillWorks: who was open may be ended yet, and another one begins.
func stillWorks(t *testing.T, m *txn.Manager, was string) {
	t.Helper()
	for i := range len(was) {
		x := int64(i) + 1
		want := api.ErrState
		if was[i] == 'o' {
			want = api.OK
		}
		if e := m.Commit(x); e != want {
			t.Fatal(x, e)
		}
	}
	was = strings.ReplaceAll(was, "o", "c")
	is(t, m, was)
	begin(t, m, int64(len(was))+1)
	is(t, m, was+"o")
}

// A Load that was refused leaves what an earlier one has made.
func TestLoadRefusedBehindLoad(t *testing.T) {
	m := txn.New()
	m.Load(5, []int64{2, 4})
	begin(t, m, 5)
	for range 2 {
		if m.Load(5, []int64{1, 3, 5}) != api.ErrArg || m.Load(api.MaxTxid+1, nil) != api.ErrArg || m.Load(0, nil) != api.ErrArg {
			t.Error("isn't refused")
		}
		is(t, m, "acaco")
	}
}

// Numbers that a Load has taken back begin anew: nothing of what they were is left.
func TestLoadTakesNumbersBack(t *testing.T) {
	m := made(t, "ccaococ")
	m.Load(3, []int64{1})
	is(t, m, "ca")
	want := "ca"
	for x := int64(3); x <= 8; x++ {
		begin(t, m, x)
		want += "o"
		is(t, m, want)
	}
	for x := int64(3); x <= 8; x++ {
		m.Abort(x)
		want = with(want, x, 'a')
		is(t, m, want)
	}
	m.Load(1, nil)
	begin(t, m, 1)
	is(t, m, "o")
}

func TestLoadAgain(t *testing.T) {
	m := txn.New()
	m.Load(9, []int64{1, 2, 3, 4, 5, 6, 7, 8})
	m.Load(9, nil)
	is(t, m, "aaaaaaaa")
	m.Load(4, []int64{3})
	is(t, m, "aac")
	m.Load(6, []int64{1, 5})
	is(t, m, "caaac")
	m.Load(1, nil)
	is(t, m, "")
}

func TestLoadGivesRoom(t *testing.T) {
	m := made(t, "oooooo")
	full(t, m, "oooooo")
	m.Load(7, []int64{6, 1})
	want := "caaaac"
	for x := int64(7); x <= 12; x++ {
		begin(t, m, x)
		want += "o"
	}
	full(t, m, want)
}

func TestLoadGivesNumbersAgain(t *testing.T) {
	m := txn.New()
	m.Load(api.MaxTxid, nil)
	if x, e := m.Begin(); x != 0 || e != api.ErrFull {
		t.Error(x, e)
	}
	m.Load(2, []int64{1})
	begin(t, m, 2)
	is(t, m, "co")
}

func TestNextJustBelowMaxTxid(t *testing.T) {
	for letter, end := range ends() {
		m := txn.New()
		m.Load(most, nil)
		want := strings.Repeat("a", most-1)
		is(t, m, want)
		begin(t, m, most)
		full(t, m, want+"o")
		if e := end(m, most); e != api.OK {
			t.Error(e)
		}
		full(t, m, want+string(letter))
	}
}
