package spool_test

import (
	"testing"

	"carrier/api"
	"carrier/spool"
)

// The chapter's example.
func TestExample(t *testing.T) {
	s := spool.New()
	s.Add(ev("a1"))
	rotates(t, s, false, 2, api.OK)
	rotates(t, s, false, 2, api.OK)
	rotates(t, s, false, 0, api.ErrWait)
	is(t, s, "a1 | | * ")
}

func TestRotate(t *testing.T) {
	for _, c := range []struct {
		was  string
		free bool
		n    byte
		err  api.Errno
		is   string
	}{
		{"* | | ", false, 2, api.OK, " | * | "},
		{"* | | ", true, 2, api.OK, " | * | "},
		{" | * | ", false, 2, api.OK, " | | * "},
		{" | * | ", true, 2, api.OK, " | | * "},
		{" | | * ", false, 2, api.OK, "* | | "},
		{" | | * ", true, 2, api.OK, "* | | "},

		// Next is empty: the current one's own, and the third one's, stay where they are.
		{"* a5 b6 | | c7", false, 2, api.OK, "a5 b6 | * | c7"},
		{"* a5 b6 | | c7", true, 2, api.OK, "a5 b6 | * | c7"},
		{"a5 | * b6 c7 | ", false, 2, api.OK, "a5 | b6 c7 | * "},
		{"a5 | * b6 c7 | ", true, 2, api.OK, "a5 | b6 c7 | * "},
		{" | a5 | * b6 c7", false, 2, api.OK, "* | a5 | b6 c7"},
		{" | a5 | * b6 c7", true, 2, api.OK, "* | a5 | b6 c7"},

		// It is free: the current one is so still.
		{"* a5 | b6 b7 | c8", true, 1, api.OK, "* a5 | | c8"},
		{"a5 | * b6 b7 | c8 c9", true, 1, api.OK, "a5 | * b6 b7 | "},
		{"a5 a4 a3 | b6 b7 | * c8", true, 1, api.OK, " | b6 b7 | * c8"},
		{"* | b6 | ", true, 1, api.OK, "* | | "},
		{" | * | b6", true, 1, api.OK, " | * | "},
		{"b6 | | * ", true, 1, api.OK, " | | * "},

		// It isn't free.
		{"* a5 | b6 b7 | c8", false, 0, api.ErrWait, "* a5 | b6 b7 | c8"},
		{"a5 | * b6 b7 | c8", false, 0, api.ErrWait, "a5 | * b6 b7 | c8"},
		{"a5 | b6 b7 | * c8", false, 0, api.ErrWait, "a5 | b6 b7 | * c8"},
		{"* | b6 | ", false, 0, api.ErrWait, "* | b6 | "},
		{" | * | b6", false, 0, api.ErrWait, " | * | b6"},
		{"b6 | | * ", false, 0, api.ErrWait, "b6 | | * "},
	} {
		s := made(t, c.was)
		rotates(t, s, c.free, c.n, c.err)
		is(t, s, c.is)
	}
}

// Once more, and once more: while it isn't free nothing ever changes.
func TestRotateWaits(t *testing.T) {
	s := made(t, "a5 | * b6 | c7")
	for range 10 {
		rotates(t, s, false, 0, api.ErrWait)
		is(t, s, "a5 | * b6 | c7")
	}
	rotates(t, s, true, 1, api.OK)
	is(t, s, "a5 | * b6 | ")
}

// A table whose events were all forgotten is empty.
func TestRotateBehindForget(t *testing.T) {
	s := made(t, "* a5 | b6 b7 | c8")
	rotates(t, s, false, 0, api.ErrWait)
	forgets(t, s, 2, 2)
	rotates(t, s, false, 2, api.OK)
	is(t, s, "a5 | * | c8")
}

// What comes behind an emptied table's events, comes alone.
func TestAddBehindRotate(t *testing.T) {
	s := made(t, "* a5 | b6 b7 | c8")
	rotates(t, s, true, 1, api.OK)
	if err := s.AddTo(1, ev("d9")); err != api.OK {
		t.Error(err)
	}
	is(t, s, "* a5 | d9 | c8")
	rotates(t, s, true, 1, api.OK)
	rotates(t, s, true, 2, api.OK)
	s.Add(ev("e1"))
	is(t, s, "a5 | * e1 | c8")
}

// Empty tables are gone through again and again.
func TestRoundsOfNothing(t *testing.T) {
	s := spool.New()
	for n := range 20 {
		if s.Cur() != n%3 {
			t.Fatal(n, s.Cur())
		}
		rotates(t, s, n%2 == 0, 2, api.OK)
	}
}

// With an event a step, and two Rotates, of which the first one empties what two rounds ahead was written.
func TestRounds(t *testing.T) {
	s := spool.New()
	s.Add(ev("a0"))
	rotates(t, s, true, 2, api.OK)
	s.Add(ev("a1"))
	rotates(t, s, true, 2, api.OK)
	s.Add(ev("a2"))
	is(t, s, "a0 | a1 | * a2")
	for _, want := range []string{"* a3 | a1 | a2", "a3 | * a4 | a2", "a3 | a4 | * a5", "* a6 | a4 | a5", "a6 | * a7 | a5", "a6 | a7 | * a8", "* a9 | a7 | a8"} {
		rotates(t, s, false, 0, api.ErrWait)
		rotates(t, s, true, 1, api.OK)
		rotates(t, s, false, 2, api.OK)
		if s.Len() != 2 {
			t.Fatal(short(s.All()))
		}
		s.Add(read(want).tables[s.Cur()][0])
		is(t, s, want)
	}
}
