package event_test

import (
	"bytes"
	"testing"

	"carrier/api"
	"carrier/event"
)

// both tells a fault if an event that is Right doesn't have these bytes, or they aren't its.
func both(t *testing.T, e api.Event, want []byte) {
	t.Helper()
	p := event.Encode(e)
	if !bytes.Equal(p, want) {
		t.Errorf("%#v: %x, not %x", e, p, want)
	}
	if x, err := event.Decode(p); x != e || err != api.OK {
		t.Errorf("%x: %#v %d, not %#v", p, x, err, e)
	}
}

// The chapter's example.
func TestExample(t *testing.T) {
	e := api.Event{ID: 1, Tx: 2, Kind: api.Insert, Row: api.Row{Key: 3, Text: "x"}}
	both(t, e, []byte{0x01, 0x02, 0x00, 0x00, 0x00, 0x01, 0x06, 0x01, 0x78})
}

// All fields have other bytes, so each has but one place.
func TestOrder(t *testing.T) {
	e := api.Event{ID: 11, Tx: 12, Owner: "ow", Tries: 13, Table: 3, Kind: api.Update, Row: api.Row{Key: 7, Text: "txt"}}
	both(t, e, []byte("\x0b\x0c\x02ow\x0d\x03\x02\x0e\x03txt"))
	e.Row.Key = -7
	both(t, e, []byte("\x0b\x0c\x02ow\x0d\x03\x02\x0d\x03txt"))
	e = api.Event{ID: 300, Tx: 301, Owner: "\x05", Tries: 302, Table: 0, Kind: api.Truncate, Row: api.Row{Key: 150, Text: "\x00\xff"}}
	both(t, e, []byte("\xac\x02\xad\x02\x01\x05\xae\x02\x00\x04\xac\x02\x02\x00\xff"))
}

func TestLeastAndGreatest(t *testing.T) {
	both(t, least(), []byte("\x01\x01\x00\x00\x00\x01\xff\xff\xff\xff\xff\xff\xff\xff\xff\x01\x00"))
	want := "\xff\xff\xff\xff\xff\xff\xff\xff\x7f" + "\xff\xff\xff\xff\xff\xff\xff\xff\x7f" + "\x28" + long(40)
	want += "\xff\xff\xff\xff\x07" + "\x03" + "\x04" + "\xfe\xff\xff\xff\xff\xff\xff\xff\xff\x01" + "\x28" + string(bytes.Repeat([]byte{0xff}, 40))
	both(t, greatest(), []byte(want))
}

// Each two fields, on each of their edges.
func TestThereAndBack(t *testing.T) {
	all := turns()
	for _, one := range all {
		for _, other := range all {
			if one.right && other.right {
				e := turned(plain(), one, other)
				both(t, e, laid(e))
			}
		}
	}
}

func TestTextsOfAnyBytes(t *testing.T) {
	for b := range 256 {
		for n := range api.MaxText + 1 {
			e := plain()
			e.Owner = string(bytes.Repeat([]byte{byte(b)}, n))
			e.Row.Text = string(bytes.Repeat([]byte{byte(b + 1)}, api.MaxText-n))
			both(t, e, laid(e))
		}
	}
}

func TestKeysOfAnyNumber(t *testing.T) {
	for places := range 64 {
		for _, beside := range []int64{-1, 0, 1} {
			n := int64(1)<<places + beside
			for _, k := range []int64{n, -n} {
				e := plain()
				e.Row.Key = k
				both(t, e, laid(e))
			}
		}
	}
}

func TestUnlikeEventsHaveUnlikeBytes(t *testing.T) {
	of := map[string]api.Event{}
	for _, e := range []api.Event{plain(), least(), greatest()} {
		for _, one := range turns() {
			if !one.right {
				continue
			}
			x := turned(e, one)
			p := string(event.Encode(x))
			if y, there := of[p]; there && x != y {
				t.Errorf("%x: %#v, %#v", p, x, y)
			}
			of[p] = x
		}
	}
}

// Of an event that isn't Right the chapter names no bytes.
func TestWhatIsNotRightHasNoBytes(t *testing.T) {
	if p := event.Encode(api.Event{}); len(p) != 0 {
		t.Errorf("%x", p)
	}
	for _, one := range turns() {
		if !one.right {
			if p := event.Encode(turned(plain(), one)); len(p) != 0 {
				t.Errorf("%s: %x", one.field, p)
			}
		}
	}
}
