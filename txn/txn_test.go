package txn_test

import (
	"math"
	"strings"
	"testing"

	"carrier/api"
	"carrier/snap"
	"carrier/txn"
)

const (
	far  = math.MaxInt64
	deep = math.MinInt64
)

// states is what the letters say has become of a transaction.
var states = map[byte]byte{'o': txn.Open, 'c': txn.Committed, 'a': txn.Aborted}

// is holds all that a manager tells against what has become of each transaction, a letter each, from 1 on: o (open), c (committed), a (aborted).
func is(t *testing.T, m *txn.Manager, want string) {
	t.Helper()
	next := int64(len(want)) + 1
	if m.Next() != next {
		t.Fatalf("Next: %d, not %d", m.Next(), next)
	}
	now := api.Snapshot{Max: next}
	for i := range len(want) {
		x := int64(i) + 1
		if m.State(x) != states[want[i]] {
			t.Fatalf("State(%d): %d, not %c", x, m.State(x), want[i])
		}
		if want[i] == 'o' {
			now.Open = append(now.Open, x)
		}
	}
	if got := m.Now(); !snap.Same(got, now) || !snap.Right(got) {
		t.Fatalf("Now: %v, not %v", got, now)
	}
	for _, x := range []int64{deep, deep + 1, -1 << 32, -next, -1, 0, next, next + 1, next + 1<<32, far - 1, far} {
		if m.State(x) != txn.None {
			t.Fatalf("State(%d): %d", x, m.State(x))
		}
	}
}

// begin begins the next one, which must be x.
func begin(t *testing.T, m *txn.Manager, x int64) {
	t.Helper()
	if got, e := m.Begin(); got != x || e != api.OK {
		t.Fatalf("Begin: %d, %d, not %d", got, e, x)
	}
}

// full: Begin must tell ErrFull, and change nothing.
func full(t *testing.T, m *txn.Manager, want string) {
	t.Helper()
	for range 2 {
		if x, e := m.Begin(); x != 0 || e != api.ErrFull {
			t.Fatalf("Begin: %d, %d", x, e)
		}
		is(t, m, want)
	}
}

// made is a manager whose transactions came to what the letters say, without Load.
func made(t *testing.T, want string) *txn.Manager {
	t.Helper()
	m := txn.New()
	for i := range len(want) {
		x := int64(i) + 1
		begin(t, m, x)
		e := api.OK
		switch want[i] {
		case 'c':
			e = m.Commit(x)
		case 'a':
			e = m.Abort(x)
		}
		if e != api.OK {
			t.Fatalf("%c %d: %d", want[i], x, e)
		}
	}
	is(t, m, want)
	return m
}

// ends are both ways in which a transaction ends, with the letter for it.
func ends() map[byte]func(m *txn.Manager, x int64) api.Errno {
	return map[byte]func(m *txn.Manager, x int64) api.Errno{'c': (*txn.Manager).Commit, 'a': (*txn.Manager).Abort}
}

// with is the letters with another one for x.
func with(want string, x int64, letter byte) string {
	return want[:x-1] + string(letter) + want[x:]
}

func TestNew(t *testing.T) {
	is(t, txn.New(), "")
}

func TestOfTheDocument(t *testing.T) {
	m := txn.New()
	begin(t, m, 1)
	begin(t, m, 2)
	if e := m.Commit(1); e != api.OK {
		t.Error(e)
	}
	is(t, m, "co")
	if now := m.Now(); now.Max != 3 || len(now.Open) != 1 || now.Open[0] != 2 {
		t.Error(now)
	}
}

func TestNumbersFromOneOn(t *testing.T) {
	m := txn.New()
	for x := int64(1); x <= api.MaxOpen; x++ {
		begin(t, m, x)
		is(t, m, strings.Repeat("o", int(x)))
	}
}

// An ended one's number isn't given again.
func TestNumbersGoOn(t *testing.T) {
	for letter, end := range ends() {
		m := txn.New()
		want := ""
		for x := int64(1); x <= 1000; x++ {
			begin(t, m, x)
			if e := end(m, x); e != api.OK {
				t.Fatal(x, e)
			}
			want += string(letter)
		}
		is(t, m, want)
	}
}

func TestMaxOpen(t *testing.T) {
	full(t, made(t, "oooooo"), "oooooo")
	full(t, made(t, "ocoaaocoocao"), "ocoaaocoocao")
	begin(t, made(t, "ooooo"), 6)
	begin(t, made(t, "ocoaaocooac"), 12)
}

func TestRoomAgain(t *testing.T) {
	for letter, end := range ends() {
		for x := int64(1); x <= api.MaxOpen; x++ {
			m := made(t, "oooooo")
			full(t, m, "oooooo")
			if e := end(m, x); e != api.OK {
				t.Fatal(x, e)
			}
			is(t, m, with("oooooo", x, letter))
			begin(t, m, 7)
			full(t, m, with("oooooo", x, letter)+"o")
		}
	}
}

// Who was ended already isn't counted once more: it makes no room.
func TestEndingAgainMakesNoRoom(t *testing.T) {
	for _, end := range ends() {
		m := made(t, "caoooooo")
		for x := int64(1); x <= 2; x++ {
			if e := end(m, x); e != api.ErrState {
				t.Fatal(x, e)
			}
		}
		full(t, m, "caoooooo")
	}
}

func TestEndedAgain(t *testing.T) {
	for letter, end := range ends() {
		for _, again := range ends() {
			m := made(t, "oco")
			for _, x := range []int64{3, 1} {
				if e := end(m, x); e != api.OK {
					t.Fatal(x, e)
				}
			}
			want := string(letter) + "c" + string(letter)
			is(t, m, want)
			for x := int64(1); x <= 3; x++ {
				for range 2 {
					if e := again(m, x); e != api.ErrState {
						t.Fatal(x, e)
					}
					is(t, m, want)
				}
			}
		}
	}
}

func TestEndOfWhoIsNotOpen(t *testing.T) {
	for _, want := range []string{"", "o", "c", "a", "oooooo", "caocao"} {
		next := int64(len(want)) + 1
		for _, x := range []int64{deep, deep + 1, -1 << 32, -1, 0, next, next + 1, 1 << 20, 1<<32 + 1, far - 1, far} {
			for _, end := range ends() {
				m := made(t, want)
				if e := end(m, x); e != api.ErrState {
					t.Errorf("%s, %d: %d", want, x, e)
				}
				is(t, m, want)
			}
		}
	}
}

// What wasn't begun when it was to be ended begins as any other one.
func TestEndAheadOfBegin(t *testing.T) {
	for _, end := range ends() {
		m := txn.New()
		for x := int64(1); x <= 3; x++ {
			if e := end(m, x); e != api.ErrState {
				t.Fatal(x, e)
			}
		}
		is(t, m, "")
		begin(t, m, 1)
		begin(t, m, 2)
		is(t, m, "oo")
	}
}

func TestStatesAreNumbers(t *testing.T) {
	m := made(t, "oca")
	for x, want := range []byte{0, 1, 2, 3} { // 0 is nobody's number
		if got := m.State(int64(x)); got != want {
			t.Errorf("%d: %d, not %d", x, got, want)
		}
	}
	if txn.None != 0 || txn.Open != 1 || txn.Committed != 2 || txn.Aborted != 3 {
		t.Error(txn.None, txn.Open, txn.Committed, txn.Aborted)
	}
}

func TestState(t *testing.T) {
	m := made(t, "caocaoooa")
	for x, want := range map[int64]byte{
		deep: txn.None, -1: txn.None, 0: txn.None,
		1: txn.Committed, 2: txn.Aborted, 3: txn.Open, 4: txn.Committed, 5: txn.Aborted, 6: txn.Open, 9: txn.Aborted,
		10: txn.None, 11: txn.None, 1<<32 + 3: txn.None, far: txn.None,
	} {
		if got := m.State(x); got != want {
			t.Errorf("%d: %d, not %d", x, got, want)
		}
	}
}

// orders are all orders of the numbers from 1 to n.
func orders(n int64) [][]int64 {
	if n == 0 {
		return [][]int64{nil}
	}
	var all [][]int64
	for _, shorter := range orders(n - 1) {
		for i := range len(shorter) + 1 {
			o := append(append([]int64{}, shorter[:i]...), n)
			all = append(all, append(o, shorter[i:]...))
		}
	}
	return all
}

// Whoever ends first: those that are open rise.
func TestNowInAllOrders(t *testing.T) {
	for k, order := range orders(api.MaxOpen) {
		m := made(t, "oooooo")
		want := "oooooo"
		for i, x := range order {
			letter := "ca"[(k+i)%2]
			if e := ends()[letter](m, x); e != api.OK {
				t.Fatal(order, x, e)
			}
			want = with(want, x, letter)
			is(t, m, want)
		}
	}
}

// Some end, and others begin: those that are open have come together bit by bit.
func TestNowOfLateOnes(t *testing.T) {
	for _, order := range orders(4) {
		m := made(t, "oooooo")
		want := "oooooo"
		for i, x := range order {
			letter := "ac"[i%2]
			ends()[letter](m, x)
			begin(t, m, int64(7+i))
			want = with(want, x, letter) + "o"
			is(t, m, want)
		}
		full(t, m, want)
	}
}

func TestNumbersEnd(t *testing.T) {
	m := txn.New()
	want := []byte{}
	for x := int64(1); x < api.MaxTxid-3; x++ {
		begin(t, m, x)
		letter := "ca"[x%2]
		if e := ends()[letter](m, x); e != api.OK {
			t.Fatal(x, e)
		}
		want = append(want, letter)
	}
	is(t, m, string(want))
	for x := int64(api.MaxTxid - 3); x < api.MaxTxid; x++ {
		begin(t, m, x)
		want = append(want, 'o')
		is(t, m, string(want))
	}
	full(t, m, string(want))
	m.Commit(api.MaxTxid - 1)
	m.Abort(api.MaxTxid - 3)
	m.Commit(api.MaxTxid - 2)
	want = append(want[:len(want)-3], "acc"...)
	full(t, m, string(want))
}

func TestNil(t *testing.T) {
	var m *txn.Manager
	for range 2 {
		if x, e := m.Begin(); x != 0 || e != api.ErrNone {
			t.Error(x, e)
		}
		for _, x := range []int64{deep, -1, 0, 1, 2, far} {
			if e := m.Commit(x); e != api.ErrNone {
				t.Error(x, e)
			}
			if e := m.Abort(x); e != api.ErrNone {
				t.Error(x, e)
			}
			if s := m.State(x); s != txn.None {
				t.Error(x, s)
			}
			for _, committed := range [][]int64{nil, {}, {0}, {1}, {far}} {
				if e := m.Load(x, committed); e != api.ErrNone {
					t.Error(x, committed, e)
				}
			}
		}
		if s := m.Now(); s.Max != 0 || len(s.Open) != 0 {
			t.Error(s)
		}
		if m.Next() != 0 {
			t.Error(m.Next())
		}
	}
}
