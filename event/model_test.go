package event_test

import (
	"bytes"
	"math/big"
	"math/rand"
	"testing"

	"carrier/api"
	"carrier/event"
)

// byHand reads an event's bytes as the chapters word it, by numbers of any size.
type byHand struct {
	rest []byte
	err  api.Errno
}

// number is nil if there is an error.
func (h *byHand) number() *big.Int {
	end := 0
	for end < len(h.rest) && h.rest[end] >= 128 {
		end++
	}
	switch {
	case h.err != api.OK:
		return nil
	case end >= 10:
		h.err = api.ErrForm
		return nil
	case end == len(h.rest):
		h.err = api.ErrShort
		return nil
	}
	n := new(big.Int)
	for i := end; i >= 0; i-- {
		n.Mul(n, big.NewInt(128))
		n.Add(n, big.NewInt(int64(h.rest[i]%128)))
	}
	if n.BitLen() > 64 || end > 0 && h.rest[end] == 0 {
		h.err = api.ErrForm
		return nil
	}
	h.rest = h.rest[end+1:]
	return n
}

// between is a number that must not be less, nor more.
func (h *byHand) between(least, most int64) int64 {
	n := h.number()
	if n == nil {
		return 0
	}
	if n.Cmp(big.NewInt(least)) < 0 || n.Cmp(big.NewInt(most)) > 0 {
		h.err = api.ErrForm
		return 0
	}
	return n.Int64()
}

func (h *byHand) key() int64 {
	n := h.number()
	if n == nil {
		return 0
	}
	half := new(big.Int).Rsh(n, 1)
	if n.Bit(0) == 1 {
		half.Neg(half).Sub(half, big.NewInt(1))
	}
	return half.Int64()
}

func (h *byHand) text() string {
	n := h.number()
	if n == nil {
		return ""
	}
	if n.Cmp(big.NewInt(40)) > 0 {
		h.err = api.ErrForm
		return ""
	}
	size := int(n.Int64())
	if size > len(h.rest) {
		h.err = api.ErrShort
		return ""
	}
	s := string(h.rest[:size])
	h.rest = h.rest[size:]
	return s
}

// read is what Decode must tell.
func read(p []byte) (api.Event, api.Errno) {
	h := &byHand{rest: p}
	var e api.Event
	for _, step := range []func(){
		func() { e.ID = h.between(1, far) },
		func() { e.Tx = h.between(1, far) },
		func() { e.Owner = h.text() },
		func() { e.Tries = int(h.between(0, 1<<31-1)) },
		func() { e.Table = int(h.between(0, 3)) },
		func() { e.Kind = byte(h.between(1, 4)) },
		func() { e.Row.Key = h.key() },
		func() { e.Row.Text = h.text() },
	} {
		if step(); h.err != api.OK {
			return api.Event{}, h.err
		}
	}
	if len(h.rest) > 0 {
		return api.Event{}, api.ErrForm
	}
	return e, api.OK
}

// asRead tells a fault if Decode tells anything else than must be, or what it tells has other bytes.
func asRead(t *testing.T, p []byte) api.Errno {
	t.Helper()
	want, wantErr := read(p)
	e, err := event.Decode(p)
	if e != want || err != wantErr {
		t.Fatalf("%x: %#v %d, not %#v %d", p, e, err, want, wantErr)
	}
	if err == api.OK && (!event.Right(e) || !bytes.Equal(event.Encode(e), p)) {
		t.Fatalf("%x: %#v, %x", p, e, event.Encode(e))
	}
	return err
}

// Each byte of an event's bytes, turned into each other one.
func TestEachByteTurned(t *testing.T) {
	for _, e := range []api.Event{plain(), least(), greatest()} {
		p := event.Encode(e)
		for i, was := range p {
			for b := range 256 {
				p[i] = byte(b)
				asRead(t, p)
			}
			p[i] = was
		}
	}
}

// Each byte of an event's bytes taken out, and each laid once more.
func TestEachByteGoneOrTwice(t *testing.T) {
	for _, e := range []api.Event{plain(), least(), greatest()} {
		p := event.Encode(e)
		for i := range p {
			asRead(t, with(p[:i], p[i+1:]))
			asRead(t, with(p[:i+1], p[i:]))
			asRead(t, p[i:])
		}
	}
}

// All lists of few bytes that are on some edge.
func TestFewBytes(t *testing.T) {
	edges := []byte{0x00, 0x01, 0x04, 0x05, 0x80, 0xff}
	var all func(p []byte, more int)
	all = func(p []byte, more int) {
		asRead(t, p)
		if more == 0 {
			return
		}
		for _, b := range edges {
			all(append(p, b), more-1)
		}
	}
	all(nil, 6)
	for a := range 256 {
		for b := range 256 {
			asRead(t, []byte{byte(a), byte(b)})
			asRead(t, []byte{1, 1, 0, 0, byte(a), byte(b)})
			asRead(t, []byte{1, 1, 0, 0, 0, 1, byte(a), byte(b)})
		}
	}
}

// rightEvent is one that is Right.
func rightEvent(r *rand.Rand) api.Event {
	return api.Event{
		ID: fromOne(r), Tx: fromOne(r), Owner: anyText(r), Tries: int(near(r) & (1<<31 - 1)), Table: r.Intn(4), Kind: byte(1 + r.Intn(4)),
		Row: api.Row{Key: near(r), Text: anyText(r)},
	}
}

// fromOne is a number from 1 on that is often near to a power of 2.
func fromOne(r *rand.Rand) int64 {
	return max(near(r)&far, 1)
}

func anyText(r *rand.Rand) string {
	p := make([]byte, r.Intn(41))
	r.Read(p)
	return string(p)
}

func TestEventsAtRandom(t *testing.T) {
	r := rand.New(rand.NewSource(2))
	for range 30000 {
		e := rightEvent(r)
		both(t, e, laid(e))
	}
}

// changed is bytes of which some were turned, taken out, laid in, or cut.
func changed(r *rand.Rand, p []byte) []byte {
	for range 1 + r.Intn(3) {
		if len(p) == 0 {
			return p
		}
		i := r.Intn(len(p))
		switch r.Intn(6) {
		case 0:
			p[i] = byte(r.Intn(256))
		case 1:
			p[i] ^= 1 << r.Intn(8)
		case 2:
			p = with(p[:i], p[i+1:])
		case 3:
			p = with(p[:i], []byte{byte(r.Intn(256))}, p[i:])
		case 4:
			p = p[:i]
		case 5:
			p[r.Intn(min(8, len(p)))] = byte(r.Intn(5))
		}
	}
	return p
}

func TestChangedBytesAtRandom(t *testing.T) {
	r := rand.New(rand.NewSource(3))
	count := map[api.Errno]int{}
	for range 100000 {
		count[asRead(t, changed(r, laid(rightEvent(r))))]++
	}
	if count[api.OK] < 1000 || count[api.ErrForm] < 1000 || count[api.ErrShort] < 1000 || len(count) != 3 {
		t.Error(count)
	}
}

// anyField is bytes of a number, or a text, that is often just so, or just not.
func anyField(r *rand.Rand) []byte {
	switch r.Intn(6) {
	case 0:
		return num(big.NewInt(int64(r.Intn(6))))
	case 1:
		n := new(big.Int).Lsh(big.NewInt(1), uint(r.Intn(66)))
		return num(n.Add(n, big.NewInt(int64(r.Intn(3)-1))))
	case 2:
		return text(long(r.Intn(44)))
	case 3:
		return with(bytes.Repeat([]byte{0x80}, r.Intn(12)), []byte{byte(r.Intn(3))})
	}
	return []byte{byte(r.Intn(5))}
}

func TestFieldsAtRandom(t *testing.T) {
	r := rand.New(rand.NewSource(4))
	count := map[api.Errno]int{}
	for range 100000 {
		l := fields(rightEvent(r))
		for range 1 + r.Intn(3) {
			l[r.Intn(len(l))].p = anyField(r)
		}
		count[asRead(t, join(l))]++
	}
	if count[api.OK] < 1000 || count[api.ErrForm] < 1000 || count[api.ErrShort] < 1000 || len(count) != 3 {
		t.Error(count)
	}
}

func TestBytesAtRandom(t *testing.T) {
	r := rand.New(rand.NewSource(5))
	for range 100000 {
		p := make([]byte, r.Intn(30))
		r.Read(p)
		for i := range p {
			if r.Intn(3) > 0 {
				p[i] %= 5
			}
		}
		asRead(t, p)
	}
}
