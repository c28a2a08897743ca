package event_test

import (
	"math"
	"math/big"
	"strings"

	"carrier/api"
)

const (
	far  = math.MaxInt64
	deep = math.MinInt64
)

// long is a text of so many bytes.
func long(n int) string {
	return strings.Repeat("t", n)
}

// plain is an event that is Right, of whose fields none is on an edge.
func plain() api.Event {
	return api.Event{ID: 300, Tx: 2, Owner: "own", Tries: 7, Table: 2, Kind: api.Update, Row: api.Row{Key: -1, Text: "xy"}}
}

// least is the event that is Right with the least number in each field.
func least() api.Event {
	return api.Event{ID: 1, Tx: 1, Kind: api.Insert, Row: api.Row{Key: deep}}
}

// greatest is one with the greatest number in each field.
func greatest() api.Event {
	return api.Event{ID: far, Tx: far, Owner: long(api.MaxText), Tries: 1<<31 - 1, Table: api.MaxTables - 1, Kind: api.Truncate, Row: api.Row{Key: far, Text: strings.Repeat("\xff", api.MaxText)}}
}

// turn is an event's field, set to some value: may it be?
type turn struct {
	field string
	right bool
	set   func(e *api.Event)
}

// turned is an event with that field set.
func turned(e api.Event, turns ...turn) api.Event {
	for _, one := range turns {
		one.set(&e)
	}
	return e
}

var (
	rightTexts  = []string{"", "a", "b", "a\x00", "\xff\x80", strings.Repeat("ä", 20), long(39), long(40)}
	wrongTexts  = []string{long(41), strings.Repeat("ä", 20) + "x", strings.Repeat("ä", 21), strings.Repeat("\x00", 41), long(40 + 256), long(1 << 16)}
	rightNames  = []int64{1, 2, 127, 128, 255, 256, 1<<31 - 1, 1 << 31, 1<<32 - 1, 1 << 32, 1 << 40, far - 1, far}
	wrongNames  = []int64{0, -1, -2, -1<<32 + 1, -1 << 32, deep + 1, deep}
	rightTries  = []int{0, 1, 2, 127, 128, 300, 1<<31 - 2, 1<<31 - 1}
	wrongTries  = []int{-1, -2, 1 << 31, 1<<31 + 1, 1 << 32, 1<<32 + 1, math.MinInt + 1, math.MinInt, math.MaxInt}
	wrongTables = []int{-1, -2, 4, 5, 256, 257, 1 << 32, 1<<32 + 1, math.MinInt + 1, math.MinInt, math.MaxInt}
	anyKeys     = []int64{0, 1, -1, 2, -2, 63, -64, 64, -65, 1 << 32, -1 << 32, far - 1, far, deep + 1, deep}
)

// turns are all fields, each set to all that is on one of its edges, within and beyond it.
func turns() []turn {
	var l []turn
	each(&l, "ID", rightNames, wrongNames, func(e *api.Event, n int64) { e.ID = n })
	each(&l, "Tx", rightNames, wrongNames, func(e *api.Event, n int64) { e.Tx = n })
	each(&l, "Owner", rightTexts, wrongTexts, func(e *api.Event, s string) { e.Owner = s })
	each(&l, "Tries", rightTries, wrongTries, func(e *api.Event, n int) { e.Tries = n })
	each(&l, "Table", []int{0, 1, 2, 3}, wrongTables, func(e *api.Event, n int) { e.Table = n })
	each(&l, "Kind", []byte{api.Insert, api.Update, api.Delete, api.Truncate}, wrongKinds(), func(e *api.Event, n byte) { e.Kind = n })
	each(&l, "Key", anyKeys, nil, func(e *api.Event, n int64) { e.Row.Key = n })
	each(&l, "Text", rightTexts, wrongTexts, func(e *api.Event, s string) { e.Row.Text = s })
	return l
}

func each[V any](l *[]turn, field string, right, wrong []V, set func(e *api.Event, v V)) {
	for i, v := range append(append([]V{}, right...), wrong...) {
		*l = append(*l, turn{field, i < len(right), func(e *api.Event) { set(e, v) }})
	}
}

// wrongKinds are all bytes that are no event's Kind.
func wrongKinds() []byte {
	l := []byte{0}
	for kind := api.Truncate + 1; kind <= math.MaxUint8; kind++ {
		l = append(l, byte(kind))
	}
	return l
}

// A field's bytes, as chapter doc/02-code.md has them, worked out by numbers of any size.

// num is a number's bytes; it isn't below 0.
func num(n *big.Int) []byte {
	var p []byte
	digit, rest, base := new(big.Int), new(big.Int).Set(n), big.NewInt(128)
	for {
		rest.DivMod(rest, base, digit)
		if rest.Sign() == 0 {
			return append(p, byte(digit.Int64()))
		}
		p = append(p, byte(digit.Int64()+128))
	}
}

// natural is the bytes of one that an int64 has room for.
func natural(n int64) []byte {
	return num(big.NewInt(n))
}

// key is the bytes of a number that may be below 0.
func key(n int64) []byte {
	twice := new(big.Int).Lsh(big.NewInt(n), 1)
	if n < 0 {
		twice.Neg(twice).Sub(twice, big.NewInt(1))
	}
	return num(twice)
}

// text is a text's bytes.
func text(s string) []byte {
	return append(natural(int64(len(s))), s...)
}

// field is a field's name, and its bytes.
type field struct {
	name string
	p    []byte
}

// fields are an event's, in the order in which the chapter names them.
func fields(e api.Event) []field {
	return []field{
		{"ID", natural(e.ID)},
		{"Tx", natural(e.Tx)},
		{"Owner", text(e.Owner)},
		{"Tries", natural(int64(e.Tries))},
		{"Table", natural(int64(e.Table))},
		{"Kind", natural(int64(e.Kind))},
		{"Key", key(e.Row.Key)},
		{"Text", text(e.Row.Text)},
	}
}

// join is the fields' bytes, one behind the other.
func join(l []field) []byte {
	var p []byte
	for _, f := range l {
		p = append(p, f.p...)
	}
	return p
}

// laid is an event's bytes.
func laid(e api.Event) []byte {
	return join(fields(e))
}
