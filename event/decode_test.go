package event_test

import (
	"bytes"
	"math/big"
	"strings"
	"testing"

	"carrier/api"
	"carrier/event"
)

// refused tells a fault if bytes aren't refused with that error, and the zero event beside it.
func refused(t *testing.T, p []byte, want api.Errno) {
	t.Helper()
	if x, err := event.Decode(p); x != (api.Event{}) || err != want {
		t.Errorf("%x: %#v %d, not %d", p, x, err, want)
	}
}

// parts are the bytes of the fields ahead of the i-th, and behind it.
func parts(e api.Event, i int) (ahead, behind []byte) {
	l := fields(e)
	return join(l[:i]), join(l[i+1:])
}

// with is bytes one behind the other.
func with(l ...[]byte) []byte {
	return bytes.Join(l, nil)
}

// Whatever follows: the error of a field's bytes is told ahead of all that is behind them.
func refusedAt(t *testing.T, i int, p string, want api.Errno) {
	t.Helper()
	for _, e := range []api.Event{plain(), least(), greatest()} {
		ahead, behind := parts(e, i)
		refused(t, with(ahead, []byte(p)), want)
		if want == api.ErrShort {
			continue // for with more bytes it isn't short
		}
		refused(t, with(ahead, []byte(p), behind), want)
		refused(t, with(ahead, []byte(p), behind, []byte("more")), want)
		refused(t, with(ahead, []byte(p), behind[:len(behind)/2]), want)
		refused(t, with(ahead, []byte(p), []byte{0x80}), want)
		refused(t, with(ahead, []byte(p), []byte{0x80, 0}), want)
		refused(t, with(ahead, []byte(p), bytes.Repeat([]byte{0xff}, 300)), want)
	}
}

const fieldCount = 8

// Each field is, or begins with, a number: of each layer 2's errors.
func TestNumbersOfEachField(t *testing.T) {
	for i := range fieldCount {
		refusedAt(t, i, "", api.ErrShort)
		for n := 1; n < 10; n++ {
			refusedAt(t, i, strings.Repeat("\x80", n), api.ErrShort)
			refusedAt(t, i, strings.Repeat("\xff", n), api.ErrShort)
			refusedAt(t, i, strings.Repeat("\x80", n)+"\x00", api.ErrForm)
			refusedAt(t, i, strings.Repeat("\x81", n)+"\x00", api.ErrForm)
		}
		refusedAt(t, i, strings.Repeat("\x80", 10), api.ErrForm)
		refusedAt(t, i, strings.Repeat("\xff", 11), api.ErrForm)
		refusedAt(t, i, strings.Repeat("\x80", 10)+"\x01", api.ErrForm)
		refusedAt(t, i, strings.Repeat("\x80", 30)+"\x01", api.ErrForm)
		for last := 2; last < 128; last++ {
			refusedAt(t, i, strings.Repeat("\x81", 9)+string([]byte{byte(last)}), api.ErrForm)
		}
	}
}

// bound is a field of a number, with the least and the greatest that it may have.
type bound struct {
	name        string
	i           int
	least, most int64
}

func bounds() []bound {
	return []bound{{"ID", 0, 1, far}, {"Tx", 1, 1, far}, {"Tries", 3, 0, 1<<31 - 1}, {"Table", 4, 0, 3}, {"Kind", 5, 1, 4}}
}

// manyNumbers are those near to 0, to a field's bounds, and to powers of 2, up to such as layer 2 refuses.
func manyNumbers() []*big.Int {
	var l []*big.Int
	for places := range 70 {
		for beside := range int64(13) {
			n := new(big.Int).Lsh(big.NewInt(1), uint(places))
			if n.Add(n, big.NewInt(beside-6)); n.Sign() >= 0 {
				l = append(l, n)
			}
		}
	}
	return l
}

func TestBoundsOfNumbers(t *testing.T) {
	for _, b := range bounds() {
		for _, n := range manyNumbers() {
			if n.Cmp(big.NewInt(b.least)) < 0 || n.Cmp(big.NewInt(b.most)) > 0 {
				refusedAt(t, b.i, string(num(n)), api.ErrForm)
				continue
			}
			l := fields(plain())
			l[b.i].p = num(n)
			x, err := event.Decode(join(l))
			if err != api.OK || !event.Right(x) || !bytes.Equal(laid(x), join(l)) {
				t.Errorf("%s %d: %#v %d", b.name, n, x, err)
			}
		}
	}
}

// What may be doesn't come again by a turn: a number is held as it is, not by its lowest bits.
func TestNumbersThatCameRound(t *testing.T) {
	for _, b := range bounds() {
		for _, n := range []int64{b.least, b.least + 1, b.most - 1, b.most} {
			for _, places := range []uint{8, 16, 31, 32, 63, 64} {
				more := new(big.Int).Lsh(big.NewInt(1), places)
				if more.Add(more, big.NewInt(n)); more.Cmp(big.NewInt(b.most)) > 0 {
					refusedAt(t, b.i, string(num(more)), api.ErrForm)
				}
			}
		}
	}
}

// A number that isn't so is told behind it: of one that is cut that isn't known yet.
func TestNumbersThatAreCut(t *testing.T) {
	for _, b := range bounds() {
		for _, n := range manyNumbers() {
			p := num(n)
			for end := range min(len(p), 10) {
				ahead, _ := parts(plain(), b.i)
				refused(t, with(ahead, p[:end]), api.ErrShort)
			}
		}
	}
}

const ownerAt, keyAt, textAt = 2, 6, 7

func TestTextsThatAreTooLong(t *testing.T) {
	for _, i := range []int{ownerAt, textAt} {
		for _, n := range manyNumbers() {
			if n.Cmp(big.NewInt(api.MaxText)) > 0 {
				refusedAt(t, i, string(num(n)), api.ErrForm)
			}
		}
		for _, n := range []int{41, 42, 127, 128, 256, 296, 1 << 16} {
			refusedAt(t, i, string(text(long(n))), api.ErrForm)
			refusedAt(t, i, string(text(long(n))[:40]), api.ErrForm)
		}
	}
}

func TestTextsThatAreCut(t *testing.T) {
	for _, i := range []int{ownerAt, textAt} {
		for n := 1; n <= api.MaxText; n++ {
			p := text(long(n))
			for end := range p {
				refusedAt(t, i, string(p[:end]), api.ErrShort)
			}
			l := fields(plain())
			l[i].p = p
			if x, err := event.Decode(join(l)); err != api.OK || !bytes.Equal(laid(x), join(l)) {
				t.Errorf("%d, %d bytes: %#v %d", i, n, x, err)
			}
		}
	}
}

// Each number of 64 bits is a key's.
func TestKeysAsTheyAreLaid(t *testing.T) {
	for _, n := range manyNumbers() {
		if n.BitLen() > 64 {
			refusedAt(t, keyAt, string(num(n)), api.ErrForm)
			continue
		}
		want := new(big.Int).Rsh(n, 1)
		if n.Bit(0) == 1 {
			want.Neg(want).Sub(want, big.NewInt(1))
		}
		l := fields(plain())
		l[keyAt].p = num(n)
		if x, err := event.Decode(join(l)); err != api.OK || !want.IsInt64() || x.Row.Key != want.Int64() {
			t.Errorf("%d: %#v %d", n, x, err)
		}
	}
}

// Of two faults the first one is told.
func TestFirstFaultIsTold(t *testing.T) {
	for _, c := range []struct {
		p    string
		want api.Errno
	}{
		{"\x00", api.ErrForm},
		{"\x00\x80", api.ErrForm},
		{"\x80", api.ErrShort},
		{"\x01", api.ErrShort},
		{"\x01\x00", api.ErrForm},
		{"\x01\x00\x29", api.ErrForm},
		{"\x01\x00\x05ab", api.ErrForm},
		{"\x01\x01\x05ab", api.ErrShort},
		{"\x01\x01\x02ab", api.ErrShort},
		{"\x01\x01\x03ab\x80\x80\x80\x80\x08", api.ErrShort},       // the Owner has a byte more: Tries is 2^24
		{"\x01\x01\x02ab\x80\x80\x80\x80\x08", api.ErrForm},        // Tries is 2^31
		{"\x01\x01\x02ab\x80\x80\x80\x80", api.ErrShort},           // Tries is cut
		{"\x01\x01\x02ab\xff\xff\xff\xff\x07", api.ErrShort},       // Tries may be so
		{"\x01\x01\x02ab\x00\x04", api.ErrForm},                    // of all behind the Table there is none
		{"\x01\x01\x02ab\x00\x84", api.ErrShort},                   // the Table is cut
		{"\x01\x01\x02ab\x00\x84\x00", api.ErrForm},                // the Table has a byte too many
		{"\x01\x01\x02ab\x00\x03\x05", api.ErrForm},                // no such Kind
		{"\x01\x01\x02ab\x00\x03\x00", api.ErrForm},                // no such Kind
		{"\x01\x01\x02ab\x00\x03\x04", api.ErrShort},               // no key
		{"\x01\x01\x02ab\x00\x03\x04\x00", api.ErrShort},           // no text
		{"\x01\x01\x02ab\x00\x03\x04\x00\x28", api.ErrShort},       // a text without its bytes
		{"\x01\x01\x02ab\x00\x03\x04\x00\x29", api.ErrForm},        // a text that is too long
		{"\x01\x01\x02ab\x00\x03\x04\x00\x02a", api.ErrShort},      // a text that is cut
		{"\x01\x01\x02ab\x00\x03\x04\x00\x02abc", api.ErrForm},     // a byte is left
		{"\x01\x01\x02ab\x00\x03\x04\x00\x00\x80", api.ErrForm},    // a byte is left, whatever it is
		{"\x00\x01\x02ab\x00\x03\x04\x00\x02a", api.ErrForm},       // no such ID, and cut
		{"\x01\x01\x02ab\x00\x03\x09\x80\x80\x80", api.ErrForm},    // no such Kind, and cut
		{"\x01\x01\x02ab\x00\x09\x80\x80\x80", api.ErrForm},        // no such Table, and cut
		{"\x01\x01\x02ab\x80\x80\x80\x80\x10\x80", api.ErrForm},    // Tries of 2^32, and cut
		{"\x01\x80\x80\x80\x80\x80\x80\x80\x80\x80", api.ErrShort}, // Tx is cut, nine bytes of it are there
	} {
		refused(t, []byte(c.p), c.want)
	}
}

// Each cut of an event's bytes: they are short wherever it is.
func TestEachCut(t *testing.T) {
	for _, e := range []api.Event{plain(), least(), greatest()} {
		for _, one := range turns() {
			if !one.right {
				continue
			}
			p := laid(turned(e, one))
			for end := range p {
				refused(t, p[:end:end], api.ErrShort)
				refused(t, p[:end], api.ErrShort) // what its list has room for behind it isn't there
			}
		}
	}
}

func TestBytesThatGoOn(t *testing.T) {
	for _, e := range []api.Event{plain(), least(), greatest()} {
		for b := range 256 {
			refused(t, with(laid(e), []byte{byte(b)}), api.ErrForm)
		}
		for _, more := range []string{"\x00\x00", long(128), strings.Repeat("\x80", 20), strings.Repeat("\xff", 1<<16)} {
			refused(t, with(laid(e), []byte(more)), api.ErrForm)
		}
		refused(t, with(laid(e), laid(e)), api.ErrForm)
	}
}

func TestNoBytes(t *testing.T) {
	refused(t, nil, api.ErrShort)
	refused(t, []byte{}, api.ErrShort)
}
