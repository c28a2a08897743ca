package event_test

import (
	"math"
	"math/rand"
	"testing"

	"carrier/api"
	"carrier/event"
)

func TestRight(t *testing.T) {
	for _, e := range []api.Event{plain(), least(), greatest()} {
		if !event.Right(e) {
			t.Errorf("%#v", e)
		}
	}
	if event.Right(api.Event{}) {
		t.Error("the zero event")
	}
}

// Each field alone, on each of its edges.
func TestRightOfOneField(t *testing.T) {
	for _, e := range []api.Event{plain(), least(), greatest()} {
		for _, one := range turns() {
			if x := turned(e, one); event.Right(x) != one.right {
				t.Errorf("%s: %#v: not %t", one.field, x, one.right)
			}
		}
	}
}

// One field that is right makes none right that is wrong.
func TestRightOfTwoFields(t *testing.T) {
	all := turns()
	for _, one := range all {
		for _, other := range all {
			if one.field == other.field {
				continue
			}
			if x := turned(plain(), one, other); event.Right(x) != (one.right && other.right) {
				t.Fatalf("%s, %s: %#v", one.field, other.field, x)
			}
		}
	}
}

func TestRightOfEachKind(t *testing.T) {
	for kind := range 256 {
		e := plain()
		e.Kind = byte(kind)
		if event.Right(e) != (kind >= 1 && kind <= 4) {
			t.Error(kind)
		}
	}
}

func TestRightOfEachTable(t *testing.T) {
	for table := -300; table <= 300; table++ {
		e := plain()
		e.Table = table
		if event.Right(e) != (table >= 0 && table < api.MaxTables) {
			t.Error(table)
		}
	}
}

func TestRightOfEachLength(t *testing.T) {
	for n := range 600 {
		e := plain()
		e.Owner = long(n)
		if event.Right(e) != (n <= api.MaxText) {
			t.Error("Owner", n)
		}
		e = plain()
		e.Row.Text = long(n)
		if event.Right(e) != (n <= api.MaxText) {
			t.Error("Text", n)
		}
	}
}

// near is a number that is often near to 0, or to a power of 2.
func near(r *rand.Rand) int64 {
	n := int64(1)<<r.Intn(64) + int64(r.Intn(5)-2)
	if r.Intn(4) == 0 {
		n = -n
	}
	return n
}

// anyEvent is one of whose fields some may be wrong.
func anyEvent(r *rand.Rand) api.Event {
	e := api.Event{ID: near(r), Tx: near(r), Owner: long(r.Intn(43)), Tries: int(near(r)), Table: r.Intn(6) - 1, Kind: byte(r.Intn(6))}
	e.Row = api.Row{Key: near(r), Text: long(r.Intn(43))}
	return e
}

func TestRightAtRandom(t *testing.T) {
	r := rand.New(rand.NewSource(1))
	count := 0
	for range 200000 {
		e := anyEvent(r)
		want := true
		for _, holds := range []bool{
			e.ID > 0, e.Tx > 0, len([]byte(e.Owner)) < 41, len([]byte(e.Row.Text)) < 41, e.Tries > -1, e.Tries <= math.MaxInt32,
			e.Table == 0 || e.Table == 1 || e.Table == 2 || e.Table == 3, e.Kind == 1 || e.Kind == 2 || e.Kind == 3 || e.Kind == 4,
		} {
			want = want && holds
		}
		if event.Right(e) != want {
			t.Fatalf("%#v: not %t", e, want)
		}
		if want {
			count++
		}
	}
	if count < 1000 {
		t.Error("just", count, "were right")
	}
}

func TestDue(t *testing.T) {
	for _, c := range []struct {
		of, owner string
		want      bool
	}{
		{"", "", true},
		{"", "a", true},
		{"", api.Replica, true},
		{"", long(41), true},
		{"a", "a", true},
		{"a", "", false},
		{"a", "b", false},
		{"a", "A", false},
		{"a", "ab", false},
		{"ab", "a", false},
		{"ab", "b", false},
		{"a", " a", false},
		{"a", "a\x00", false},
		{"\x00", "", false},
		{"\x00", "\x00", true},
		{" ", "", false},
		{"\xff", "\xfe", false},
		{"\xff", "\ufffd", false},
		{"ä", "a\u0308", false},
		{long(40), long(40), true},
		{long(40), long(39), false},
		{long(40), long(41), false},
		{long(41), long(41), true},
		{api.Replica, api.Replica, true},
		{api.Replica, "a", false},
	} {
		e := plain()
		e.Owner = c.of
		if event.Due(e, c.owner) != c.want {
			t.Errorf("%q, %q: not %t", c.of, c.owner, c.want)
		}
		if event.Due(api.Event{Owner: c.of}, c.owner) != c.want {
			t.Errorf("%q, %q, all else zero: not %t", c.of, c.owner, c.want)
		}
	}
}

// Just the Owner counts: not the Text, and not whether the event is Right.
func TestDueOfOtherFields(t *testing.T) {
	for _, one := range turns() {
		for _, owner := range rightTexts {
			x := turned(plain(), one)
			if event.Due(x, owner) != (len(x.Owner) == 0 || x.Owner == owner) {
				t.Errorf("%s: %#v, %q", one.field, x, owner)
			}
		}
	}
}
