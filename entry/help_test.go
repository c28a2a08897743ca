package entry_test

import (
	"maps"
	"math"
	"math/big"
	"slices"
	"strings"

	"carrier/api"
	"carrier/entry"
	"carrier/event"
	"carrier/heap"
)

const (
	far  = math.MaxInt64
	deep = math.MinInt64
)

// long is a text of so many bytes.
func long(n int) string {
	return strings.Repeat("t", n)
}

// chapter says which parts each Kind has, in their order.
var chapter = map[byte][]string{
	entry.Commit:     {"Tx", "Next", "NextID", "Ops", "Events"},
	entry.Maint:      {"Tx", "Next", "NextID", "Events", "At"},
	entry.Tick:       {"Tick.N", "Tick.Max", "Tick.Open", "Tick.At"},
	entry.Register:   {"Name", "N"},
	entry.Unregister: {"Name", "N"},
	entry.Open:       {"Name", "N"},
	entry.Finish:     {"Name", "N"},
	entry.Retry:      {"Name", "N", "At"},
	entry.Rotate:     {"N"},
	entry.Trim:       {"N"},
	entry.Applied:    {"N", "Ops"},
}

// has are the parts that a Kind has; none, if there is no such Kind.
func has(kind byte) []string {
	return chapter[kind]
}

// kinds are those that there are.
func kinds() []byte {
	return slices.Sorted(maps.Keys(chapter))
}

// otherKinds are those that there aren't.
func otherKinds() []byte {
	var l []byte
	for kind := range 256 {
		if len(has(byte(kind))) == 0 {
			l = append(l, byte(kind))
		}
	}
	return l
}

func op(table int, gone bool, key int64, text string) entry.Op {
	return entry.Op{Table: table, Op: heap.Op{Gone: gone, Row: api.Row{Key: key, Text: text}}}
}

func placed(spool int, e api.Event) entry.Placed {
	return entry.Placed{Spool: spool, Event: e}
}

// plainEvent is one that is Right, of whose fields none is on an edge.
func plainEvent() api.Event {
	return api.Event{ID: 300, Tx: 2, Owner: "own", Tries: 7, Table: 2, Kind: api.Update, Row: api.Row{Key: -1, Text: "xy"}}
}

// greatEvent is the one with the most bytes that is Right.
func greatEvent() api.Event {
	most := strings.Repeat("\xff", api.MaxText)
	return api.Event{ID: far, Tx: far, Owner: most, Tries: math.MaxInt32, Table: api.MaxTables - 1, Kind: api.Truncate, Row: api.Row{Key: deep, Text: most}}
}

// full is an entry all of whose fields are set, each to another value, whatever its Kind has.
func full(kind byte) entry.Entry {
	return entry.Entry{
		Kind: kind, Tx: 21, Next: 322, NextID: 23,
		Ops:    []entry.Op{op(1, true, -7, ""), op(2, false, 300, "text")},
		Events: []entry.Placed{placed(2, plainEvent()), placed(1, api.Event{ID: 1, Tx: 1, Kind: api.Insert})},
		Tick:   api.Tick{N: 24, Snap: api.Snapshot{Max: 325, Open: []int64{26, 127, 228}}, At: -29},
		Name:   "name", N: 430, At: -31,
	}
}

// least is an entry of no list, no text, and the least numbers.
func least(kind byte) entry.Entry {
	return entry.Entry{Kind: kind, Tick: api.Tick{At: deep}, At: deep}
}

// edge is one of the greatest numbers, and the longest texts, but of short lists.
func edge(kind byte) entry.Entry {
	most := strings.Repeat("\xff", api.MaxText)
	return entry.Entry{
		Kind: kind, Tx: far, Next: far, NextID: far,
		Ops:    []entry.Op{op(255, true, far, most)},
		Events: []entry.Placed{placed(255, greatEvent())},
		Tick:   api.Tick{N: far, Snap: api.Snapshot{Max: far, Open: []int64{far}}, At: far},
		Name:   most, N: far, At: far,
	}
}

// greatest is one of the longest lists, too.
func greatest(kind byte) entry.Entry {
	e := edge(kind)
	e.Ops = slices.Repeat(e.Ops, 255)
	e.Events = slices.Repeat(e.Events, 255)
	e.Tick.Snap.Open = slices.Repeat(e.Tick.Snap.Open, 255)
	return e
}

// bases are entries of a Kind that may be encoded.
func bases(kind byte) []entry.Entry {
	return []entry.Entry{full(kind), least(kind), edge(kind), greatest(kind)}
}

// kept is an entry with all that its Kind doesn't have zero.
func kept(e entry.Entry) entry.Entry {
	x := entry.Entry{Kind: e.Kind}
	for _, name := range has(e.Kind) {
		switch name {
		case "Tx":
			x.Tx = e.Tx
		case "Next":
			x.Next = e.Next
		case "NextID":
			x.NextID = e.NextID
		case "Ops":
			x.Ops = e.Ops
		case "Events":
			x.Events = e.Events
		case "Tick.N":
			x.Tick.N = e.Tick.N
		case "Tick.Max":
			x.Tick.Snap.Max = e.Tick.Snap.Max
		case "Tick.Open":
			x.Tick.Snap.Open = e.Tick.Snap.Open
		case "Tick.At":
			x.Tick.At = e.Tick.At
		case "Name":
			x.Name = e.Name
		case "N":
			x.N = e.N
		case "At":
			x.At = e.At
		}
	}
	return x
}

// bare is an entry whose lists of no element are nil: so the library can hold two against each other.
func bare(e entry.Entry) entry.Entry {
	if len(e.Ops) == 0 {
		e.Ops = nil
	}
	if len(e.Events) == 0 {
		e.Events = nil
	}
	if len(e.Tick.Snap.Open) == 0 {
		e.Tick.Snap.Open = nil
	}
	return e
}

// copied is an entry with lists of its own.
func copied(e entry.Entry) entry.Entry {
	e.Ops = slices.Clone(e.Ops)
	e.Events = slices.Clone(e.Events)
	e.Tick.Snap.Open = slices.Clone(e.Tick.Snap.Open)
	return e
}

// The bytes of numbers and texts, as chapter doc/02-code.md has them, worked out by numbers of any size.

// num is a number's bytes; it isn't below 0.
func num(n *big.Int) []byte {
	var p []byte
	digit, rest, base := new(big.Int), new(big.Int).Set(n), big.NewInt(128)
	for {
		rest.DivMod(rest, base, digit)
		if rest.Sign() == 0 {
			return append(p, byte(digit.Int64()))
		}
		p = append(p, byte(digit.Int64()+128))
	}
}

// natural is the bytes of one that an int64 has room for.
func natural(n int64) []byte {
	return num(big.NewInt(n))
}

// whole is the bytes of one that may be below 0.
func whole(n int64) []byte {
	twice := new(big.Int).Lsh(big.NewInt(n), 1)
	if n < 0 {
		twice.Neg(twice).Sub(twice, big.NewInt(1))
	}
	return num(twice)
}

func text(s string) []byte {
	return append(natural(int64(len(s))), s...)
}

// What a part's bytes may be.
const (
	aNumber = iota // up to 2^63 - 1
	aCount         // up to 255
	aPlace         // up to 255
	aFlag          // 0 or 1
	aWhole         // any of 64 bits
	aText          // up to MaxText bytes
	anEvent        // layer 9's bytes, as a text
)

// part is a number or a text of an entry's bytes.
type part struct {
	name string
	form int
	p    []byte
}

// parts are an entry's, behind its Kind's byte.
func parts(e entry.Entry) []part {
	var l []part
	for _, name := range has(e.Kind) {
		switch name {
		case "Ops":
			l = append(l, opParts(e.Ops)...)
		case "Events":
			l = append(l, eventParts(e.Events)...)
		case "Tick.Open":
			l = append(l, part{"how many are open", aCount, natural(int64(len(e.Tick.Snap.Open)))})
			for _, x := range e.Tick.Snap.Open {
				l = append(l, part{"Open", aNumber, natural(x)})
			}
		case "Name":
			l = append(l, part{name, aText, text(e.Name)})
		case "At":
			l = append(l, part{name, aWhole, whole(e.At)})
		case "Tick.At":
			l = append(l, part{name, aWhole, whole(e.Tick.At)})
		default:
			n := map[string]int64{"Tx": e.Tx, "Next": e.Next, "NextID": e.NextID, "N": e.N, "Tick.N": e.Tick.N, "Tick.Max": e.Tick.Snap.Max}[name]
			l = append(l, part{name, aNumber, natural(n)})
		}
	}
	return l
}

func opParts(ops []entry.Op) []part {
	l := []part{{"how many Ops", aCount, natural(int64(len(ops)))}}
	for _, o := range ops {
		gone := int64(0)
		if o.Op.Gone {
			gone = 1
		}
		l = append(l, part{"Table", aPlace, natural(int64(o.Table))}, part{"Gone", aFlag, natural(gone)})
		l = append(l, part{"Key", aWhole, whole(o.Op.Row.Key)}, part{"Text", aText, text(o.Op.Row.Text)})
	}
	return l
}

func eventParts(events []entry.Placed) []part {
	l := []part{{"how many Events", aCount, natural(int64(len(events)))}}
	for _, x := range events {
		l = append(l, part{"Spool", aPlace, natural(int64(x.Spool))})
		l = append(l, part{"Event", anEvent, text(string(event.Encode(x.Event)))})
	}
	return l
}

// join is a Kind's byte, and parts' bytes, one behind the other.
func join(kind byte, l []part) []byte {
	p := []byte{kind}
	for _, x := range l {
		p = append(p, x.p...)
	}
	return p
}

// laid is an entry's bytes.
func laid(e entry.Entry) []byte {
	return join(e.Kind, parts(e))
}

// turn is an entry's part, set to some value: may it be laid?
type turn struct {
	part  string
	right bool
	set   func(e *entry.Entry)
}

// turned is an entry with these parts set.
func turned(e entry.Entry, turns ...turn) entry.Entry {
	for _, one := range turns {
		one.set(&e)
	}
	return e
}

// mayBeLaid tells whether a Kind may have these parts: what it doesn't have doesn't count.
func mayBeLaid(kind byte, turns ...turn) bool {
	for _, one := range turns {
		if !one.right && slices.Contains(has(kind), one.part) {
			return false
		}
	}
	return true
}

var (
	rightNumbers = []int64{0, 1, 2, 127, 128, 255, 256, 1<<14 - 1, 1 << 14, 1<<31 - 1, 1 << 31, 1<<32 - 1, 1 << 32, far - 1, far}
	wrongNumbers = []int64{-1, -2, -1<<32 + 1, -1 << 32, deep + 1, deep}
	anyNumbers   = append([]int64{63, -64, 64, -65}, append(rightNumbers, wrongNumbers...)...)
	rightTexts   = []string{"", "a", "b", "a\x00", "\xff\x80", api.Replica, strings.Repeat("ä", 20), long(39), long(40)}
	wrongTexts   = []string{long(41), strings.Repeat("ä", 20) + "x", strings.Repeat("ä", 21), strings.Repeat("\x00", 41), long(40 + 256), long(1 << 16)}
	rightCounts  = []int{0, 1, 2, 127, 128, 254, 255}
	wrongCounts  = []int{256, 257, 511, 512}
)

// turns are all parts, each set to all that is on one of its edges, within and beyond it.
func turns() []turn {
	var l []turn
	each(&l, "Tx", rightNumbers, wrongNumbers, func(e *entry.Entry, n int64) { e.Tx = n })
	each(&l, "Next", rightNumbers, wrongNumbers, func(e *entry.Entry, n int64) { e.Next = n })
	each(&l, "NextID", rightNumbers, wrongNumbers, func(e *entry.Entry, n int64) { e.NextID = n })
	each(&l, "N", rightNumbers, wrongNumbers, func(e *entry.Entry, n int64) { e.N = n })
	each(&l, "At", anyNumbers, nil, func(e *entry.Entry, n int64) { e.At = n })
	each(&l, "Name", rightTexts, wrongTexts, func(e *entry.Entry, s string) { e.Name = s })
	each(&l, "Tick.N", rightNumbers, wrongNumbers, func(e *entry.Entry, n int64) { e.Tick.N = n })
	each(&l, "Tick.Max", rightNumbers, wrongNumbers, func(e *entry.Entry, n int64) { e.Tick.Snap.Max = n })
	each(&l, "Tick.At", anyNumbers, nil, func(e *entry.Entry, n int64) { e.Tick.At = n })
	each(&l, "Tick.Open", rightNumbers, wrongNumbers, func(e *entry.Entry, n int64) { e.Tick.Snap.Open = []int64{5, n, 4} })
	each(&l, "Tick.Open", rightCounts, wrongCounts, func(e *entry.Entry, n int) { e.Tick.Snap.Open = make([]int64, n) })
	each(&l, "Ops", rightCounts, wrongCounts, func(e *entry.Entry, n int) { e.Ops = slices.Repeat([]entry.Op{op(0, false, 0, "")}, n) })
	each(&l, "Ops", []bool{false, true}, nil, func(e *entry.Entry, gone bool) { e.Ops = ops(op(1, gone, 5, "x")) })
	each(&l, "Ops", anyNumbers, nil, func(e *entry.Entry, n int64) { e.Ops = ops(op(1, false, n, "x")) })
	each(&l, "Ops", rightTexts, wrongTexts, func(e *entry.Entry, s string) { e.Ops = ops(op(1, true, 5, s)) })
	each(&l, "Ops", rightPlaces, wrongPlaces, func(e *entry.Entry, n int) { e.Ops = ops(op(n, true, 5, "x")) })
	each(&l, "Events", rightPlaces, wrongPlaces, func(e *entry.Entry, n int) { e.Events = events(placed(n, plainEvent())) })
	each(&l, "Events", rightCounts, wrongCounts, func(e *entry.Entry, n int) {
		e.Events = slices.Repeat([]entry.Placed{placed(0, plainEvent())}, n)
	})
	each(&l, "Events", rightEvents(), wrongEvents(), func(e *entry.Entry, x api.Event) { e.Events = events(placed(2, x)) })
	return l
}

var (
	rightPlaces = []int{0, 1, 2, 3, 4, 127, 128, 254, 255}
	wrongPlaces = []int{-1, -2, -256, -1 << 32, math.MinInt + 1, math.MinInt}
	farPlaces   = []int{256, 257, 300, 511, 512, 1 << 16, 1<<32 - 1, 1 << 32, 1<<32 + 1, math.MaxInt - 1, math.MaxInt} // laid, but not read
)

// ops is that one, with others around it.
func ops(o entry.Op) []entry.Op {
	return []entry.Op{op(2, true, 1, "a"), o, op(3, false, 2, "b")}
}

// events is that one, with others around it.
func events(x entry.Placed) []entry.Placed {
	return []entry.Placed{placed(1, greatEvent()), x, placed(2, api.Event{ID: 1, Tx: 1, Kind: api.Insert})}
}

func rightEvents() []api.Event {
	l := []api.Event{plainEvent(), greatEvent()}
	for kind := byte(api.Insert); kind <= api.Truncate; kind++ {
		l = append(l, api.Event{ID: 1, Tx: 1, Kind: kind}, api.Event{ID: far, Tx: 1, Table: 3, Kind: kind, Row: api.Row{Key: far}})
	}
	return l
}

// wrongEvents are such as aren't Right, by one field each.
func wrongEvents() []api.Event {
	l := []api.Event{{}}
	for _, set := range []func(e *api.Event){
		func(e *api.Event) { e.ID = 0 },
		func(e *api.Event) { e.ID = -1 },
		func(e *api.Event) { e.Tx = 0 },
		func(e *api.Event) { e.Tx = deep },
		func(e *api.Event) { e.Owner = long(41) },
		func(e *api.Event) { e.Tries = -1 },
		func(e *api.Event) { e.Tries = 1 << 31 },
		func(e *api.Event) { e.Table = -1 },
		func(e *api.Event) { e.Table = 4 },
		func(e *api.Event) { e.Kind = 0 },
		func(e *api.Event) { e.Kind = 5 },
		func(e *api.Event) { e.Row.Text = long(41) },
	} {
		e := plainEvent()
		set(&e)
		l = append(l, e)
	}
	return l
}

func each[V any](l *[]turn, part string, right, wrong []V, set func(e *entry.Entry, v V)) {
	for i, v := range slices.Concat(right, wrong) {
		*l = append(*l, turn{part, i < len(right), func(e *entry.Entry) { set(e, v) }})
	}
}

// with is bytes one behind the other.
func with(l ...[]byte) []byte {
	return slices.Concat(l...)
}
