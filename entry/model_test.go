package entry_test

import (
	"bytes"
	"math"
	"math/big"
	"math/rand"
	"reflect"
	"testing"

	"carrier/api"
	"carrier/entry"
	"carrier/event"
)

// byHand reads an entry's bytes as the chapters word it, by numbers of any size.
type byHand struct {
	rest []byte
	err  api.Errno
}

// number is nil if there is an error; none is above greatest.
func (h *byHand) number(form int) *big.Int {
	end := 0
	for end < len(h.rest) && h.rest[end] >= 128 {
		end++
	}
	switch {
	case h.err != api.OK:
		return nil
	case end >= 10:
		h.err = api.ErrForm
		return nil
	case end == len(h.rest):
		h.err = api.ErrShort
		return nil
	}
	n := new(big.Int)
	for i := end; i >= 0; i-- {
		n.Mul(n, big.NewInt(128))
		n.Add(n, big.NewInt(int64(h.rest[i]%128)))
	}
	if n.Cmp(bound(form)) > 0 || end > 0 && h.rest[end] == 0 {
		h.err = api.ErrForm
		return nil
	}
	h.rest = h.rest[end+1:]
	return n
}

// natural is a number that isn't above what may stand there; 0, if there is an error.
func (h *byHand) natural(form int) int64 {
	if n := h.number(form); n != nil {
		return n.Int64()
	}
	return 0
}

func (h *byHand) whole() int64 {
	n := h.number(aWhole)
	if n == nil {
		return 0
	}
	half := new(big.Int).Rsh(n, 1)
	if n.Bit(0) == 1 {
		half.Neg(half).Sub(half, big.NewInt(1))
	}
	return half.Int64()
}

func (h *byHand) text(form int) string {
	size := int(h.natural(form))
	if h.err == api.OK && size > len(h.rest) {
		h.err = api.ErrShort
	}
	if h.err != api.OK {
		return ""
	}
	s := string(h.rest[:size])
	h.rest = h.rest[size:]
	return s
}

// each does so many as a number says, up to the first error.
func (h *byHand) each(do func()) {
	for n := h.natural(aCount); n > 0 && h.err == api.OK; n-- {
		do()
	}
}

func (h *byHand) op() entry.Op {
	table := h.natural(aPlace)
	gone := h.natural(aFlag)
	key := h.whole()
	return op(int(table), gone == 1, key, h.text(aText))
}

func (h *byHand) placed() entry.Placed {
	spool := h.natural(aPlace)
	p := h.text(anEvent)
	if h.err != api.OK {
		return entry.Placed{}
	}
	e, err := event.Decode([]byte(p))
	h.err = err
	return placed(int(spool), e)
}

// part reads one of the parts that a Kind has.
func (h *byHand) part(name string, e *entry.Entry) {
	switch name {
	case "Ops":
		h.each(func() { e.Ops = append(e.Ops, h.op()) })
	case "Events":
		h.each(func() { e.Events = append(e.Events, h.placed()) })
	case "Tick.Open":
		h.each(func() { e.Tick.Snap.Open = append(e.Tick.Snap.Open, h.natural(aNumber)) })
	case "Name":
		e.Name = h.text(aText)
	case "At":
		e.At = h.whole()
	case "Tick.At":
		e.Tick.At = h.whole()
	case "Tx":
		e.Tx = h.natural(aNumber)
	case "Next":
		e.Next = h.natural(aNumber)
	case "NextID":
		e.NextID = h.natural(aNumber)
	case "N":
		e.N = h.natural(aNumber)
	case "Tick.N":
		e.Tick.N = h.natural(aNumber)
	case "Tick.Max":
		e.Tick.Snap.Max = h.natural(aNumber)
	}
}

// read is what Decode must tell.
func read(p []byte) (entry.Entry, api.Errno) {
	if len(p) == 0 {
		return entry.Entry{}, api.ErrShort
	}
	if len(has(p[0])) == 0 {
		return entry.Entry{}, api.ErrForm
	}
	h := &byHand{rest: p[1:]}
	e := entry.Entry{Kind: p[0]}
	for _, name := range has(e.Kind) {
		h.part(name, &e)
	}
	if h.err == api.OK && len(h.rest) > 0 {
		h.err = api.ErrForm
	}
	if h.err != api.OK {
		return entry.Entry{}, h.err
	}
	return e, api.OK
}

// asRead tells a fault if Decode tells anything else than must be, or what it tells has other bytes.
func asRead(t *testing.T, p []byte) api.Errno {
	t.Helper()
	want, wantErr := read(p)
	e, err := entry.Decode(p)
	if !reflect.DeepEqual(bare(e), bare(want)) || err != wantErr {
		t.Fatalf("%x: %+v %d, not %+v %d", p, e, err, want, wantErr)
	}
	if err == api.OK && (!bytes.Equal(entry.Encode(e), p) || !entry.Same(e, want)) {
		t.Fatalf("%x: %+v, %x", p, e, entry.Encode(e))
	}
	return err
}

// Each byte of an entry's bytes, turned into each other one.
func TestEachByteTurned(t *testing.T) {
	for _, kind := range kinds() {
		for _, e := range []entry.Entry{full(kind), least(kind), edge(kind)} {
			p := laid(e)
			for i, was := range p {
				for b := range 256 {
					p[i] = byte(b)
					asRead(t, p)
				}
				p[i] = was
			}
		}
	}
}

// Each byte of an entry's bytes taken out, and each laid once more.
func TestEachByteGoneOrTwice(t *testing.T) {
	for _, kind := range kinds() {
		for _, e := range []entry.Entry{full(kind), least(kind), edge(kind)} {
			p := laid(e)
			for i := range p {
				asRead(t, with(p[:i], p[i+1:]))
				asRead(t, with(p[:i+1], p[i:]))
				asRead(t, p[i:])
				asRead(t, p[:i])
			}
		}
	}
}

// All lists of few bytes that are on some edge, behind each Kind's.
func TestFewBytes(t *testing.T) {
	edges := []byte{0x00, 0x01, 0x02, 0x29, 0x80, 0xff}
	var all func(p []byte, more int)
	all = func(p []byte, more int) {
		asRead(t, p)
		if more == 0 {
			return
		}
		for _, b := range edges {
			all(append(p, b), more-1)
		}
	}
	for kind := range 13 {
		all([]byte{byte(kind)}, 5)
	}
	all([]byte("\x01\x01\x01\x01"), 5)
	all([]byte("\x01\x01\x01\x01\x00"), 5)
	all([]byte("\x02\x01\x01"), 5)
	for a := range 256 {
		for b := range 256 {
			asRead(t, []byte{byte(a), byte(b)})
			asRead(t, []byte{0x0b, 0, byte(a), byte(b)})
		}
	}
}

// anyNumber is one that isn't below 0, and is often near to 0, or to a power of 2.
func anyNumber(r *rand.Rand) int64 {
	return int64(uint64(anyWhole(r)) & far)
}

func anyWhole(r *rand.Rand) int64 {
	n := int64(1)<<r.Intn(64) + int64(r.Intn(5)-2)
	if r.Intn(4) == 0 {
		n = -n
	}
	return n
}

func anyText(r *rand.Rand) string {
	p := make([]byte, r.Intn(41))
	r.Read(p)
	return string(p)
}

// anyLength is often a small one, at times up to 255.
func anyLength(r *rand.Rand) int {
	if r.Intn(80) == 0 {
		return r.Intn(256)
	}
	return r.Intn(4)
}

// rightEvent is one that is Right.
func rightEvent(r *rand.Rand) api.Event {
	return api.Event{
		ID: max(anyNumber(r), 1), Tx: max(anyNumber(r), 1), Owner: anyText(r), Tries: int(anyNumber(r) & math.MaxInt32), Table: r.Intn(4), Kind: byte(1 + r.Intn(4)),
		Row: api.Row{Key: anyWhole(r), Text: anyText(r)},
	}
}

// rightEntry is one that may be encoded, and read again, with all fields set, of a Kind that there is.
func rightEntry(r *rand.Rand) entry.Entry {
	e := entry.Entry{
		Kind: kinds()[r.Intn(11)], Tx: anyNumber(r), Next: anyNumber(r), NextID: anyNumber(r), Name: anyText(r), N: anyNumber(r), At: anyWhole(r),
		Tick: api.Tick{N: anyNumber(r), Snap: api.Snapshot{Max: anyNumber(r)}, At: anyWhole(r)},
	}
	for range anyLength(r) {
		e.Ops = append(e.Ops, op(r.Intn(256), r.Intn(2) > 0, anyWhole(r), anyText(r)))
	}
	for range anyLength(r) {
		e.Events = append(e.Events, placed(r.Intn(256), rightEvent(r)))
	}
	for range anyLength(r) {
		e.Tick.Snap.Open = append(e.Tick.Snap.Open, anyNumber(r))
	}
	return e
}

func TestEntriesAtRandom(t *testing.T) {
	r := rand.New(rand.NewSource(2))
	for range 20000 {
		e := rightEntry(r)
		both(t, e, laid(e))
	}
}

// Entries some of whose parts may not be.
func TestTurnedEntriesAtRandom(t *testing.T) {
	r := rand.New(rand.NewSource(3))
	all := turns()
	count := map[bool]int{}
	for range 20000 {
		e := rightEntry(r)
		var l []turn
		for len(l) < 3 {
			one := all[r.Intn(len(all))]
			if len(l) == 0 || one.part != l[len(l)-1].part { // else the one would take back what the other one did
				l = append(l, one)
			}
		}
		l = l[:2]
		right := mayBeLaid(e.Kind, l...)
		if e = turned(e, l...); right {
			both(t, e, laid(e))
		} else {
			none(t, e)
		}
		count[right]++
	}
	if count[true] < 1000 || count[false] < 1000 {
		t.Error(count)
	}
}

// changed is bytes of which some were turned, taken out, laid in, or cut.
func changed(r *rand.Rand, p []byte) []byte {
	for range 1 + r.Intn(3) {
		if len(p) == 0 {
			return p
		}
		i := r.Intn(len(p))
		switch r.Intn(6) {
		case 0:
			p[i] = byte(r.Intn(256))
		case 1:
			p[i] ^= 1 << r.Intn(8)
		case 2:
			p = with(p[:i], p[i+1:])
		case 3:
			p = with(p[:i], []byte{byte(r.Intn(256))}, p[i:])
		case 4:
			p = p[:i]
		case 5:
			p[r.Intn(min(8, len(p)))] = byte(r.Intn(12))
		}
	}
	return p
}

// enough tells a fault if one of the answers is rare: then what was tried isn't worth much.
func enough(t *testing.T, count map[api.Errno]int) {
	t.Helper()
	if count[api.OK] < 1000 || count[api.ErrForm] < 1000 || count[api.ErrShort] < 1000 || len(count) != 3 {
		t.Error(count)
	}
}

func TestChangedBytesAtRandom(t *testing.T) {
	r := rand.New(rand.NewSource(4))
	count := map[api.Errno]int{}
	for range 30000 {
		count[asRead(t, changed(r, laid(rightEntry(r))))]++
	}
	enough(t, count)
}

// anyPart is bytes of a number, or a text, that is often just so, or just not.
func anyPart(r *rand.Rand) []byte {
	switch r.Intn(7) {
	case 0:
		return num(big.NewInt(int64(r.Intn(4))))
	case 1:
		n := new(big.Int).Lsh(big.NewInt(1), uint(r.Intn(66)))
		return num(n.Add(n, big.NewInt(int64(r.Intn(3)-1))))
	case 2:
		return text(long(r.Intn(44)))
	case 3:
		return with(bytes.Repeat([]byte{0x80}, r.Intn(12)), []byte{byte(r.Intn(3))})
	case 4:
		return text(string(event.Encode(rightEvent(r))))
	case 5:
		return text(string(changed(r, event.Encode(rightEvent(r)))))
	}
	return []byte{byte(r.Intn(4))}
}

// Parts that are others' than the chapter's, in some places.
func TestPartsAtRandom(t *testing.T) {
	r := rand.New(rand.NewSource(5))
	count := map[api.Errno]int{}
	for range 30000 {
		e := rightEntry(r)
		l := parts(e)
		for range 1 + r.Intn(2) {
			l[r.Intn(len(l))].p = anyPart(r)
		}
		count[asRead(t, join(e.Kind, l))]++
	}
	enough(t, count)
}

// One Kind's bytes behind another Kind's number.
func TestKindsAtRandom(t *testing.T) {
	r := rand.New(rand.NewSource(6))
	for range 20000 {
		p := laid(rightEntry(r))
		p[0] = byte(r.Intn(13))
		asRead(t, p)
	}
}

func TestBytesAtRandom(t *testing.T) {
	r := rand.New(rand.NewSource(7))
	count := map[api.Errno]int{}
	for range 200000 {
		p := make([]byte, r.Intn(40))
		r.Read(p)
		for i := range p {
			if r.Intn(4) > 0 {
				p[i] %= 3
			}
		}
		if len(p) > 0 {
			p[0] = byte(r.Intn(13))
		}
		count[asRead(t, p)]++
	}
	enough(t, count)
}

// Two are encoded, one behind the other, as in a log; each is read by its own bytes alone.
func TestTwoOneBehindTheOther(t *testing.T) {
	r := rand.New(rand.NewSource(8))
	for range 2000 {
		a, b := rightEntry(r), rightEntry(r)
		p, q := entry.Encode(a), entry.Encode(b)
		refused(t, with(p, q), api.ErrForm)
		both(t, a, p)
		both(t, b, q)
	}
}
