package source_test

import (
	"fmt"
	"math"
	"slices"
	"strconv"
	"strings"
	"testing"

	"carrier/api"
	"carrier/block"
	"carrier/cursor"
	"carrier/entry"
	"carrier/heap"
	"carrier/rel"
	"carrier/retry"
	"carrier/source"
	"carrier/txn"
	"carrier/wal"
)

const (
	far  = math.MaxInt64
	deep = math.MinInt64
)

// at is a snapshot.
func at(most int64, open ...int64) api.Snapshot {
	return api.Snapshot{Max: most, Open: open}
}

// letters is that letter, as often as that.
func letters(letter string, times int) string {
	return strings.Repeat(letter, times)
}

// row is a row.
func row(key int64, text string) api.Row {
	return api.Row{Key: key, Text: text}
}

// stmt is a statement.
func stmt(kind byte, table int, key int64, text string) rel.Stmt {
	return rel.Stmt{Kind: kind, Table: table, Row: row(key, text)}
}

// put is an op by which a row is so.
func put(table int, key int64, text string) entry.Op {
	return entry.Op{Table: table, Op: heap.Op{Row: row(key, text)}}
}

// gone is an op by which a row is gone.
func gone(table int, key int64, text string) entry.Op {
	return entry.Op{Table: table, Op: heap.Op{Gone: true, Row: row(key, text)}}
}

// event is one that is told to all.
func event(id, x int64, table int, kind byte, key int64, text string) api.Event {
	return api.Event{ID: id, Tx: x, Table: table, Kind: kind, Row: row(key, text)}
}

// in is events, each with that spool.
func in(spool int, events ...api.Event) []entry.Placed {
	var l []entry.Placed
	for _, e := range events {
		l = append(l, entry.Placed{Spool: spool, Event: e})
	}
	return l
}

// numbers are those of a text, with points between.
func numbers(text string) []int64 {
	var l []int64
	for _, digits := range strings.Split(text, ".") {
		n, err := strconv.ParseInt(digits, 10, 64)
		if err != nil {
			panic(text)
		}
		l = append(l, n)
	}
	return l
}

// number is that of digits.
func number(digits string) int64 {
	return numbers(digits)[0]
}

// statement is that of a word: the transaction, the table, the key, the text: 1.0.5=a; of a Truncate there is no key.
func statement(kind byte, rest string) (int64, rel.Stmt) {
	head, text, _ := strings.Cut(rest, "=")
	n := append(numbers(head), 0)
	return n[0], stmt(kind, int(n[1]), n[2], text)
}

// do is one word: b begins a transaction; i1.0.5=a lets 1 insert row 5 into table 0; u1.0.5=b updates, and d1.0.5
// deletes it; z1.0 truncates table 0; c1, x1 and s1 commit, abort and stage 1; t5 is a tick at 5; +a and -a let the
// consumer a come and go; >a is a's Next, <a its Finish; !a.7.5 lets event 7 come again for a, at 5; m5 is a Maint at
// 5; o is a Rotate, k a Trim, v a Vacuum.
func do(s *source.Source, word string) api.Errno {
	e, rest := api.OK, word[1:]
	switch kinds := "iudz"; word[0] {
	case 'b':
		_, e = s.Begin()
	case 'i', 'u', 'd', 'z':
		x, st := statement(byte(1+strings.Index(kinds, word[:1])), rest)
		_, e = s.Run(x, st)
	case 'c':
		e = s.Commit(number(rest))
	case 'x':
		e = s.Abort(number(rest))
	case 's':
		e = s.Stage(number(rest))
	case 't':
		_, e = s.Tick(number(rest))
	case '+':
		e = s.Register(rest)
	case '-':
		e = s.Unregister(rest)
	case '>':
		_, e = s.Next(rest)
	case '<':
		_, e = s.Finish(rest)
	case '!':
		name, n, _ := strings.Cut(rest, ".")
		e = s.Retry(name, numbers(n)[0], numbers(n)[1])
	case 'm':
		_, e = s.Maint(number(rest))
	case 'o':
		_, e = s.Rotate()
	case 'k':
		_, e = s.Trim()
	case 'v':
		s.Vacuum()
	default:
		panic(word)
	}
	return e
}

// play does what the words of a text say, and tells a fault if one of them is refused.
func play(t *testing.T, s *source.Source, text string) {
	t.Helper()
	for _, word := range strings.Fields(text) {
		if e := do(s, word); e != api.OK {
			t.Fatalf("%s of %s: %d", word, text, e)
		}
	}
}

// open is the source on a device, which must be one.
func open(t *testing.T, d *block.Device, tables, traced int) *source.Source {
	t.Helper()
	s, e := source.Open(d, tables, traced)
	if e != api.OK || s == nil {
		t.Fatal(e)
	}
	return s
}

// made is a source on a new device, of which table 0 and 1 are traced, and 2 isn't, to which all that a text says was done.
func made(t *testing.T, text string) (*block.Device, *source.Source) {
	t.Helper()
	d := block.New(1000)
	s := open(t, d, 3, 2)
	play(t, s, text)
	return d, s
}

// content is all bytes of a device.
func content(d *block.Device) string {
	var all []byte
	for i := range d.Size() {
		p, _ := d.Read(i)
		all = append(all, p...)
	}
	return string(all)
}

// twin is another device with the same bytes, which are safe.
func twin(d *block.Device) *block.Device {
	c := block.New(d.Size())
	for i := range d.Size() {
		p, _ := d.Read(i)
		c.Write(i, p)
	}
	c.Sync()
	return c
}

// records is what a device's log has, which isn't touched.
func records(d *block.Device) [][]byte {
	_, l, _ := wal.Open(twin(d))
	return l
}

// logged is the entries that a device's log has.
func logged(t *testing.T, d *block.Device) []entry.Entry {
	t.Helper()
	var l []entry.Entry
	for _, p := range records(d) {
		e, refusal := entry.Decode(p)
		if refusal != api.OK {
			t.Fatalf("% x: %d", p, refusal)
		}
		l = append(l, e)
	}
	return l
}

// ends tells a fault if a device's log doesn't end with just these entries, behind so many others.
func ends(t *testing.T, d *block.Device, others int, want ...entry.Entry) {
	t.Helper()
	got := logged(t, d)
	if len(got) != others+len(want) || !slices.EqualFunc(got[others:], want, entry.Same) {
		t.Fatalf("%+v, not %+v", got[min(others, len(got)):], want)
	}
}

// remembered is a device with a log of these entries.
func remembered(t *testing.T, entries ...entry.Entry) *block.Device {
	t.Helper()
	d := block.New(100)
	l, _, _ := wal.Open(d)
	for _, e := range entries {
		if refusal := l.Append(entry.Encode(e)); refusal != api.OK {
			t.Fatal(e, refusal)
		}
	}
	l.Sync()
	return d
}

// told is all that a source tells of itself.
type told struct {
	now    api.Snapshot
	states []byte
	id     int64
	cur    int
	lists  [api.Spools][]api.Event
	ticks  []api.Tick
	names  []cursor.Cursor
	items  []retry.Item
	opens  []opened
	free   bool
	size   int
	rows   []string // of each table, by Now and by each tick's snapshot
}

// opened is a consumer's batch.
type opened struct {
	l []api.Event
	e api.Errno
}

func tell(s *source.Source) told {
	q, m := s.Queue(), s.Manager()
	is := told{now: m.Now(), id: q.NextID(), cur: q.Spools().Cur(), names: q.Cursors().All(), items: q.Retries().All(), free: q.Free(), size: s.Size()}
	for x := range m.Next() + 1 {
		is.states = append(is.states, m.State(x))
	}
	for i := range api.Spools {
		is.lists[i] = q.Spools().List(i)
	}
	snaps := []api.Snapshot{is.now}
	for x, kept := q.Ticks().After(deep); kept; x, kept = q.Ticks().After(x.N) {
		is.ticks = append(is.ticks, x)
		snaps = append(snaps, x.Snap)
	}
	for _, c := range is.names {
		l, e := s.Batch(c.Name)
		is.opens = append(is.opens, opened{l, e})
	}
	for table := -1; table <= api.MaxTables; table++ {
		for _, at := range snaps {
			is.rows = append(is.rows, fmt.Sprint(s.Rows(table, at)))
		}
	}
	return is
}

// text is what is told, as a text: two are alike if their texts are.
func (a told) text() string {
	return fmt.Sprintf("%+v", a)
}

// safe is what is told, but for what is lost when the device is opened again: whoever is open, and its events, the
// numbers and IDs that were given since, and in which order events stand that are told by their IDs.
func (a told) safe() string {
	uncommitted := func(e api.Event) bool { return a.states[e.Tx] != txn.Committed }
	for i, l := range a.lists {
		a.lists[i] = slices.DeleteFunc(slices.Clone(l), uncommitted)
		slices.SortStableFunc(a.lists[i], func(a, b api.Event) int { return int(a.ID - b.ID) })
	}
	a.states, a.now, a.id, a.free = nil, api.Snapshot{}, 0, false
	return a.text()
}

// is tells a fault if a source doesn't tell just that of itself.
func is(t *testing.T, s *source.Source, want told) {
	t.Helper()
	if got := tell(s); got.text() != want.text() {
		t.Fatalf("%s\nnot\n%s", short(got.text()), short(want.text()))
	}
}

// keeps tells a fault if a call changes anything of the source, or of its device.
func keeps(t *testing.T, d *block.Device, s *source.Source, call func()) {
	t.Helper()
	was, bytes, waiting := tell(s), content(d), d.Waiting()
	call()
	is(t, s, was)
	if content(d) != bytes || d.Waiting() != waiting {
		t.Fatal("the device is another one", d.Waiting(), waiting)
	}
}

// refuses tells a fault if a call tells another error, or changes anything.
func refuses(t *testing.T, d *block.Device, s *source.Source, want api.Errno, call func() api.Errno) {
	t.Helper()
	keeps(t, d, s, func() {
		t.Helper()
		if e := call(); e != want {
			t.Fatalf("%d, not %d", e, want)
		}
	})
}

// refusesAll is refuses, of each word of a text.
func refusesAll(t *testing.T, d *block.Device, s *source.Source, want api.Errno, text string) {
	t.Helper()
	for _, word := range strings.Fields(text) {
		refuses(t, d, s, want, func() api.Errno {
			t.Helper()
			return do(s, word)
		})
	}
}

// has tells a fault if whoever begins now doesn't see just these rows of a table.
func has(t *testing.T, s *source.Source, table int, want ...api.Row) {
	t.Helper()
	if l := s.Rows(table, s.Manager().Now()); !slices.Equal(l, want) {
		t.Fatalf("%v, not %v", l, want)
	}
}

// sees tells a fault if a transaction doesn't see just these rows of a table.
func sees(t *testing.T, s *source.Source, x int64, table int, want ...api.Row) {
	t.Helper()
	if l, e := s.Run(x, stmt(rel.Scan, table, 0, "")); e != api.OK || !slices.Equal(l, want) {
		t.Fatalf("%v, %d, not %v", l, e, want)
	}
}

// words are the events of a list: the ID, the transaction, the Owner, what was done, the table, the row: 7.3a:i0.5=x.
func words(l []api.Event) string {
	var all []string
	for _, e := range l {
		all = append(all, fmt.Sprintf("%d.%d%s:%c%d.%d=%s", e.ID, e.Tx, e.Owner, " iudz"[e.Kind], e.Table, e.Row.Key, e.Row.Text))
	}
	return strings.Join(all, " ")
}

// stand tells a fault if not just the events of these words stand in the spools, one behind the other.
func stand(t *testing.T, s *source.Source, want ...string) {
	t.Helper()
	for i := range api.Spools {
		if got := words(s.Queue().Spools().List(i)); got != want[i] {
			t.Fatalf("spool %d: %s, not %s", i, got, want[i])
		}
	}
}

// batch tells a fault if a consumer's batch isn't open, or has other events than those.
func batch(t *testing.T, s *source.Source, name, want string) {
	t.Helper()
	if l, e := s.Batch(name); words(l) != want || e != api.OK {
		t.Fatalf("Batch(%.60q): %s, %d, not %s", name, words(l), e, want)
	}
}

// short is a text, with as much of it as there is room for.
func short(text string) string {
	return fmt.Sprintf("%.3000s", text)
}
