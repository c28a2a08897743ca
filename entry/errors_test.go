package entry_test

import (
	"bytes"
	"math/big"
	"reflect"
	"strings"
	"testing"

	"carrier/api"
	"carrier/entry"
	"carrier/event"
)

// refused tells a fault if bytes aren't refused with that error, and the zero entry beside it.
func refused(t *testing.T, p []byte, want api.Errno) {
	t.Helper()
	x, err := entry.Decode(p)
	if !reflect.DeepEqual(bare(x), entry.Entry{}) || err != want {
		t.Errorf("%x: %+v %d, not %d", p, x, err, want)
	}
}

// place is a part of some entry's bytes: what stands ahead of it, and behind it.
type place struct {
	part
	ahead, behind []byte
}

// places are all parts of entries of all Kinds.
func places() []place {
	var all []place
	for _, kind := range kinds() {
		for _, e := range []entry.Entry{full(kind), least(kind), edge(kind)} {
			l := parts(e)
			for i, x := range l {
				all = append(all, place{x, join(kind, l[:i]), join(kind, l[i+1:])[1:]})
			}
		}
	}
	return all
}

// refusedAt tells a fault if bytes in a part's place aren't refused with that error, whatever follows.
func refusedAt(t *testing.T, at place, p []byte, want api.Errno) {
	t.Helper()
	for _, behind := range []string{
		"", string(at.behind), string(at.behind) + "more", string(at.behind[:len(at.behind)/2]), "\x00", "\x80", "\x80\x00", strings.Repeat("\xff", 300),
	} {
		refused(t, with(at.ahead, p, []byte(behind)), want)
	}
}

// Each part is, or begins with, a number: of each layer 2's errors.
func TestNumbersOfEachPart(t *testing.T) {
	for _, at := range places() {
		refused(t, at.ahead, api.ErrShort)
		for n := 1; n < 10; n++ {
			for _, b := range []byte{0x80, 0x81, 0xff} {
				p := bytes.Repeat([]byte{b}, n)
				refused(t, with(at.ahead, p), api.ErrShort)
				refusedAt(t, at, with(p, []byte{0}), api.ErrForm) // a longer form than needed
			}
		}
		for _, p := range []string{strings.Repeat("\x80", 10), strings.Repeat("\xff", 10), strings.Repeat("\x80", 10) + "\x01", strings.Repeat("\x80", 30) + "\x01"} {
			refusedAt(t, at, []byte(p), api.ErrForm)
		}
		for last := 2; last < 128; last++ { // above 2^64 - 1
			refusedAt(t, at, with(bytes.Repeat([]byte{0x81}, 9), []byte{byte(last)}), api.ErrForm)
		}
	}
}

// manyNumbers are those near to 0, and to powers of 2, up to such as layer 2 refuses.
func manyNumbers() []*big.Int {
	var l []*big.Int
	for places := range 67 {
		for beside := range int64(5) {
			n := new(big.Int).Lsh(big.NewInt(1), uint(places))
			if n.Add(n, big.NewInt(beside-2)); n.Sign() >= 0 {
				l = append(l, n)
			}
		}
	}
	for _, n := range []int64{39, 40, 41, 42, 43, 399, 400, 401, 402} {
		l = append(l, big.NewInt(n))
	}
	return l
}

// bound is the greatest number that may stand, or begin, at a part.
func bound(form int) *big.Int {
	n := new(big.Int).SetUint64(1<<64 - 1)
	switch form {
	case aNumber:
		n.SetInt64(far)
	case aCount, aPlace:
		n.SetInt64(255)
	case aFlag:
		n.SetInt64(1)
	case aText:
		n.SetInt64(api.MaxText)
	case anEvent:
		n.SetInt64(400)
	}
	return n
}

// A number that is too great is told behind it, ahead of all that is behind it; one that isn't, is not.
func TestBoundsOfNumbers(t *testing.T) {
	all := manyNumbers()
	for _, at := range places() {
		for _, n := range all {
			if n.Cmp(bound(at.form)) > 0 {
				refusedAt(t, at, num(n), api.ErrForm)
				continue
			}
			p := with(at.ahead, num(n))
			if _, err := entry.Decode(p); err == api.ErrForm {
				t.Errorf("%s: %x: %d", at.name, p, err)
			}
			if at.form == aCount || at.form == aText || at.form == anEvent {
				continue
			}
			p = with(p, at.behind)
			if x, err := entry.Decode(p); err != api.OK || !bytes.Equal(laid(x), p) {
				t.Errorf("%s: %x: %+v %d", at.name, p, x, err)
			}
		}
	}
}

// A number is held as it is, not by its lowest bits.
func TestNumbersThatCameRound(t *testing.T) {
	for _, at := range places() {
		for low := range int64(3) {
			for _, places := range []uint{8, 16, 31, 32, 63, 64} {
				n := new(big.Int).Lsh(big.NewInt(1), places)
				if n.Add(n, big.NewInt(low)); n.Cmp(bound(at.form)) > 0 {
					refusedAt(t, at, num(n), api.ErrForm)
				}
			}
		}
	}
}

// Of one that is cut it isn't known yet what it is.
func TestNumbersThatAreCut(t *testing.T) {
	all := manyNumbers()
	for _, at := range places() {
		for _, n := range all {
			p := num(n)
			for end := range min(len(p), 10) {
				refused(t, with(at.ahead, p[:end]), api.ErrShort)
			}
		}
	}
}

// A text that is too long is told behind its number, whether its bytes are there or not; one that may be, is short if they aren't.
func TestTextsOfAllLengths(t *testing.T) {
	for _, at := range places() {
		most := map[int]int{aText: api.MaxText, anEvent: 400}[at.form]
		if most == 0 {
			continue
		}
		for _, n := range []int{most + 1, most + 2, most + 256, 1 << 16} {
			p := text(long(n))
			refusedAt(t, at, p, api.ErrForm)
			refusedAt(t, at, p[:3], api.ErrForm)
		}
		for _, n := range []int{1, 2, 39, 40, most - 1, most} {
			p := text(long(n))
			for end := range p {
				refused(t, with(at.ahead, p[:end]), api.ErrShort)
			}
		}
	}
}

// The texts' bytes are just so many as their number says.
func TestTextsAsLongAsTheySay(t *testing.T) {
	for _, at := range places() {
		if at.form != aText {
			continue
		}
		for n := range api.MaxText + 1 {
			p := with(at.ahead, text(long(n)), at.behind)
			if x, err := entry.Decode(p); err != api.OK || !bytes.Equal(laid(x), p) {
				t.Errorf("%s: %x: %+v %d", at.name, p, x, err)
			}
		}
	}
}

// eventFaults are bytes that aren't an event's: what layer 9 tells of them.
func eventFaults() []string {
	p := string(event.Encode(plainEvent()))
	l := []string{"", "\x00", "\x80", "\x80\x00", "\x01\x00", "\x01\x01\x29", p + "\x00", p + p, long(400), strings.Repeat("\xff", 400), p + long(400-len(p))}
	for end := range p {
		l = append(l, p[:end], p[:end]+"\x80\x00")
	}
	return append(l, string(event.Encode(greatEvent()))+"\x00")
}

// An event's own error is told behind its bytes, ahead of all that is behind them.
func TestErrorsOfEvents(t *testing.T) {
	count := map[api.Errno]int{}
	for _, at := range places() {
		if at.form != anEvent {
			continue
		}
		for _, fault := range eventFaults() {
			_, want := event.Decode([]byte(fault))
			count[want]++
			if want == api.OK {
				continue
			}
			p := text(fault)
			refusedAt(t, at, p, want)
			for end := range p {
				refused(t, with(at.ahead, p[:end]), api.ErrShort) // what is there of it isn't looked at
			}
		}
	}
	if count[api.ErrForm] == 0 || count[api.ErrShort] == 0 {
		t.Error(count)
	}
}

func TestEventsAreReadByTheirBytes(t *testing.T) {
	for _, at := range places() {
		if at.form != anEvent {
			continue
		}
		for _, x := range rightEvents() {
			p := with(at.ahead, text(string(event.Encode(x))), at.behind)
			if e, err := entry.Decode(p); err != api.OK || !bytes.Equal(laid(e), p) {
				t.Errorf("%x: %+v %d", p, e, err)
			}
		}
	}
}

func TestNoBytes(t *testing.T) {
	refused(t, nil, api.ErrShort)
	refused(t, []byte{}, api.ErrShort)
	refused(t, []byte("\x09\x02")[:0], api.ErrShort)
}

// Of a Kind that there isn't nothing behind it is looked at.
func TestNoSuchKind(t *testing.T) {
	for _, kind := range otherKinds() {
		for _, more := range []string{"", "\x00", "\x80", "\x80\x00", "\x02", "\x00\x00\x00\x00\x00", long(41), strings.Repeat("\xff", 300)} {
			refused(t, append([]byte{kind}, more...), api.ErrForm)
		}
		for _, of := range kinds() {
			refused(t, with([]byte{kind}, laid(full(of))[1:]), api.ErrForm)
			refused(t, with([]byte{kind}, laid(full(of))), api.ErrForm)
		}
	}
}

// The Kind is a byte, not a number of layer 2: 129 with a 1 behind it isn't one.
func TestKindIsAByte(t *testing.T) {
	for _, kind := range kinds() {
		p := laid(full(kind))
		refused(t, with([]byte{kind + 128}, p[1:]), api.ErrForm)
		refused(t, with([]byte{kind + 128, 0}, p[1:]), api.ErrForm)
		refused(t, with([]byte{kind + 128, 1}, p[1:]), api.ErrForm)
	}
}

// Wherever an entry's bytes are cut they are short.
func TestEachCut(t *testing.T) {
	for _, kind := range kinds() {
		for _, e := range []entry.Entry{full(kind), least(kind), edge(kind)} {
			p := laid(e)
			for end := range p {
				refused(t, p[:end:end], api.ErrShort)
				refused(t, p[:end], api.ErrShort) // what its list has room for behind it isn't there
			}
		}
		p := laid(greatest(kind))
		for end := 0; end < len(p); end += 1 + len(p)/500 {
			refused(t, p[:end], api.ErrShort)
		}
		refused(t, p[:len(p)-1], api.ErrShort)
	}
}

func TestBytesThatGoOn(t *testing.T) {
	for _, kind := range kinds() {
		for _, e := range bases(kind) {
			p := laid(e)
			for b := range 256 {
				refused(t, with(p, []byte{byte(b)}), api.ErrForm)
			}
			for _, more := range []string{"\x00\x00", long(128), strings.Repeat("\x80", 20), strings.Repeat("\xff", 1<<16), string(p)} {
				refused(t, with(p, []byte(more)), api.ErrForm)
			}
		}
	}
}

// 255 of something may be, 256 may not: whether they are there or not.
func TestTooManyOfSomething(t *testing.T) {
	for _, c := range []struct {
		ahead, one, behind string
	}{
		{"\x01\x01\x01\x01", "\x00\x00\x00\x00", "\x00"},
		{"\x01\x01\x01\x01\x00", "\x00\x08\x01\x01\x00\x00\x00\x01\x00\x00", ""},
		{"\x08\x01\x01\x01", "\x00\x08\x01\x01\x00\x00\x00\x01\x00\x00", "\x00"},
		{"\x02\x01\x01", "\x00", "\x00"},
		{"\x0b\x01", "\x00\x00\x00\x00", ""},
	} {
		for n := range 520 {
			p := with([]byte(c.ahead), natural(int64(n)))
			all := with(p, []byte(strings.Repeat(c.one, n)), []byte(c.behind))
			if n > 255 {
				refused(t, p, api.ErrForm)
				refused(t, all, api.ErrForm)
				continue
			}
			if x, err := entry.Decode(all); err != api.OK || max(len(x.Ops), len(x.Events), len(x.Tick.Snap.Open)) != n {
				t.Errorf("%x, %d: %d", c.ahead, n, err)
			}
			if n > 0 {
				refused(t, with(p, []byte(strings.Repeat(c.one, n-1))), api.ErrShort)
			}
		}
	}
}

// Of two faults the first one is told.
func TestFirstFaultIsTold(t *testing.T) {
	for _, c := range []struct {
		p    string
		want api.Errno
	}{
		{"\x01\x80", api.ErrShort},                                            // Tx is cut
		{"\x01\x80\x00\x29", api.ErrForm},                                     // Tx has a byte too many
		{"\x01\x01\x01\x01\x01\x80\x02", api.ErrForm},                         // a table of 256, and no more
		{"\x01\x01\x01\x01\x01\x80", api.ErrShort},                            // a table that is cut
		{"\x01\x01\x01\x01\x01\x00\x02\x80", api.ErrForm},                     // a flag of 2, and a key that is cut
		{"\x01\x01\x01\x01\x01\x80\x02\x80\x00", api.ErrForm},                 // a table of 256
		{"\x01\x01\x01\x01\x01\x00\x01\x80\x00", api.ErrForm},                 // a key of a byte too many
		{"\x01\x01\x01\x01\x01\x00\x01\x00\x29", api.ErrForm},                 // a text that is too long
		{"\x01\x01\x01\x01\x01\x00\x01\x00\x28", api.ErrShort},                // a text without its bytes
		{"\x01\x01\x01\x01\x02\x00\x01\x00\x00", api.ErrShort},                // the second op isn't there
		{"\x01\x01\x01\x01\x02\x00\x01\x00\x00\x80\x02", api.ErrForm},         // the second one's table is 256
		{"\x01\x01\x01\x01\x80\x02\x00", api.ErrForm},                         // 256 Ops
		{"\x01\x01\x01\x01\x00\x80\x02", api.ErrForm},                         // 256 Events
		{"\x01\x01\x01\x01\x00\x01\x00\x00", api.ErrShort},                    // an event of no bytes
		{"\x01\x01\x01\x01\x00\x01\x00\x00\x00", api.ErrShort},                // and a byte that is left
		{"\x01\x01\x01\x01\x00\x02\x00\x00\x80\x02", api.ErrShort},            // and a spool of 256
		{"\x01\x01\x01\x01\x00\x01\x00\x01\x00", api.ErrForm},                 // an event's ID of 0
		{"\x01\x01\x01\x01\x00\x01\x00\x02\x00", api.ErrShort},                // the same, but the text is cut
		{"\x01\x01\x01\x01\x00\x01\x80\x02\x00", api.ErrForm},                 // a spool of 256, ahead of its event
		{"\x01\x01\x01\x01\x00\x01\x00\x91\x03\x00", api.ErrForm},             // an event of 401 bytes that aren't there
		{"\x01\x01\x01\x01\x00\x01\x00\x90\x03\x00", api.ErrShort},            // one of 400 bytes that aren't there
		{"\x02\x01\x01\x80\x02", api.ErrForm},                                 // 256 in Open
		{"\x02\x01\x01\x01", api.ErrShort},                                    // one in Open isn't there
		{"\x02\x01\x01\x00", api.ErrShort},                                    // no At
		{"\x02\x01\x01\x00\x80", api.ErrShort},                                // At is cut
		{"\x02\x01\x01\x00\x00\x80", api.ErrForm},                             // a byte is left
		{"\x02\x01\xff\xff\xff\xff\xff\xff\xff\xff\xff\x01\x80", api.ErrForm}, // a Max of 2^64 - 1
		{"\x03\x29", api.ErrForm},                                             // a name that is too long
		{"\x03\x28", api.ErrShort},                                            // one without its bytes
		{"\x03\x01", api.ErrShort},                                            // one without its byte
		{"\x03\x01a", api.ErrShort},                                           // no N
		{"\x07\x01a\x01", api.ErrShort},                                       // no At
		{"\x07\x01a\x80\x80\x80\x80\x80\x80\x80\x80\x80\x01\x80", api.ErrForm},
		{"\x07\x01a\x80\x80\x80\x80\x80\x80\x80\x80\x80", api.ErrShort},
		{"\x08\x01\x01\x01\x00", api.ErrShort},                        // no At
		{"\x08\x01\x01\x01\x00\x80\x00", api.ErrForm},                 // an At of a byte too many
		{"\x09", api.ErrShort},                                        // no N
		{"\x0a\x80\x80", api.ErrShort},                                // N is cut
		{"\x0b\x01\x80\x02", api.ErrForm},                             // 256 Ops
		{"\x0b\x01\x01\x01\x02", api.ErrForm},                         // a flag of 2
		{"\x0b\x01\x01\x01\x82", api.ErrShort},                        // a flag that is cut
		{"\x0b\x01\x01\x01\x81\x00", api.ErrForm},                     // a flag of a byte too many
		{"\x0b\x01\x01\x01\x01\x00\x00\x00", api.ErrForm},             // a byte is left
		{"\x0b\x01\x01\x01\x02\x00\x00", api.ErrForm},                 // a flag of 2, and all else is there
		{"\x0b\x80\x80\x80\x80\x80\x80\x80\x80\x80\x01", api.ErrForm}, // an N of 2^63, and no more
	} {
		refused(t, []byte(c.p), c.want)
	}
}
