package queue_test

import (
	"fmt"
	"math"
	"slices"
	"strconv"
	"strings"
	"testing"

	"carrier/api"
	"carrier/cursor"
	"carrier/queue"
	"carrier/retry"
	"carrier/snap"
	"carrier/txn"
)

const (
	far     = math.MaxInt64
	deep    = math.MinInt64
	largest = 1<<31 - 1 // the greatest Tries
)

// at is a snapshot.
func at(most int64, open ...int64) api.Snapshot {
	return api.Snapshot{Max: most, Open: open}
}

// number is that of digits.
func number(digits string) int64 {
	n, err := strconv.ParseInt(digits, 10, 64)
	if err != nil {
		panic(err)
	}
	return n
}

// pair is two numbers with a colon between.
func pair(text string) (int64, int64) {
	a, b, _ := strings.Cut(text, ":")
	return number(a), number(b)
}

// row is what an event of a transaction is of, as play writes it.
func row(x int64) api.Row {
	return api.Row{Key: -x, Text: "row " + strconv.FormatInt(x, 10)}
}

// made is a queue to which all that a text says was done, and its manager.
func made(t *testing.T, text string) (*txn.Manager, *queue.Queue) {
	t.Helper()
	m := txn.New()
	q := queue.New(m)
	play(t, m, q, text)
	return m, q
}

// play does what the words of a text say, and tells a fault if one of them is refused.
func play(t *testing.T, m *txn.Manager, q *queue.Queue, text string) {
	t.Helper()
	for _, word := range strings.Fields(text) {
		if e := do(m, q, word[0], word[1:]); e != api.OK {
			t.Fatalf("%s of %s: %d", word, text, e)
		}
	}
}

// do is one word: b begins a transaction; c3 commits 3, and x3 aborts it; w3 writes an event of 3; f3 forgets
// all of them; t5 is a tick at 5; +a and -a let the consumer a come and go; >a is a's Next, <a its Finish;
// !a7:5 lets event 7 come again for a, at 5; m3:5 is a Maint of 3, at 5; o is a Rotate, k a Trim.
func do(m *txn.Manager, q *queue.Queue, verb byte, rest string) api.Errno {
	e := api.OK
	switch verb {
	case 'b':
		_, e = m.Begin()
	case 'c':
		e = m.Commit(number(rest))
	case 'x':
		e = m.Abort(number(rest))
	case 'w':
		q.Write(number(rest), 1, api.Update, row(number(rest)))
	case 'f':
		q.Forget(number(rest))
	case 't':
		_, e = q.Tick(number(rest))
	case '+':
		e = q.Register(rest)
	case '-':
		e = q.Unregister(rest)
	case '>':
		_, e = q.Next(rest)
	case '<':
		_, e = q.Finish(rest)
	case '!':
		id, at := pair(rest[1:])
		e = q.Retry(rest[:1], id, at)
	case 'm':
		q.Maint(pair(rest))
	case 'o':
		_, e = q.Rotate()
	case 'k':
		q.Trim()
	default:
		panic(verb)
	}
	return e
}

// words are the events of a list: the ID, the transaction, the Owner: 7.3 8.3a.
func words(l []api.Event) string {
	var all []string
	for _, e := range l {
		all = append(all, fmt.Sprintf("%d.%d%s", e.ID, e.Tx, e.Owner))
	}
	return strings.Join(all, " ")
}

// stand tells a fault if not just the events of these words stand in the spools, one behind the other.
func stand(t *testing.T, q *queue.Queue, want ...string) {
	t.Helper()
	for i := range api.Spools {
		if got := words(q.Spools().List(i)); got != want[i] {
			t.Fatalf("spool %d: %s, not %s", i, got, want[i])
		}
	}
}

// batch tells a fault if a consumer's batch isn't open, or has other events than those.
func batch(t *testing.T, q *queue.Queue, name, want string) {
	t.Helper()
	if l, e := q.Batch(name); words(l) != want || e != api.OK {
		t.Fatalf("Batch(%.60q): %s, %d, not %s", name, words(l), e, want)
	}
}

// next tells a fault if Next tells something else than the tick of that number, or than that error.
func next(t *testing.T, q *queue.Queue, name string, n int64, want api.Errno) {
	t.Helper()
	tick, _ := q.Ticks().Get(n)
	if got, e := q.Next(name); !sameTick(got, tick) || got.N != n || e != want {
		t.Fatalf("Next(%.60q): %v, %d, not %d, %d", name, got, e, n, want)
	}
}

// consumer tells a fault if that consumer isn't there, with this Last and this Open.
func consumer(t *testing.T, q *queue.Queue, name string, last, open int64) {
	t.Helper()
	want := cursor.Cursor{Name: name, Last: last, Open: open}
	if got, there := q.Cursors().Get(name); got != want || !there {
		t.Fatalf("%v %v, not %v", got, there, want)
	}
}

// rotates tells a fault if Rotate tells something else, or Free something that doesn't fit with it.
func rotates(t *testing.T, q *queue.Queue, want byte) {
	t.Helper()
	if free := q.Free(); free != (want != 0) {
		t.Fatalf("Free: %v, but %d", free, want)
	}
	refusal := api.OK
	if want == 0 {
		refusal = api.ErrWait
	}
	was := tell(q)
	if got, e := q.Rotate(); got != want || e != refusal {
		t.Fatalf("Rotate: %d, %d, not %d, %d", got, e, want, refusal)
	}
	switch next := (was.cur + 1) % api.Spools; want {
	case 1:
		was.lists[next] = nil
	case 2:
		was.cur = next
	}
	if got := tell(q); !slices.EqualFunc(got.lists[:], was.lists[:], slices.Equal) || got.cur != was.cur {
		t.Fatalf("Rotate: %s, not %s", short(got), short(was))
	}
}

// told is all that a queue tells of itself.
type told struct {
	id    int64
	cur   int
	lists [api.Spools][]api.Event
	last  int64
	ticks []api.Tick
	names []cursor.Cursor
	items []retry.Item
	opens []opened
	free  bool
}

// opened is a consumer's batch.
type opened struct {
	l []api.Event
	e api.Errno
}

func tell(q *queue.Queue) told {
	is := told{id: q.NextID(), cur: q.Spools().Cur(), last: q.Ticks().Last(), names: q.Cursors().All(), items: q.Retries().All(), free: q.Free()}
	for i := range api.Spools {
		is.lists[i] = q.Spools().List(i)
	}
	for n := int64(deep); ; {
		x, kept := q.Ticks().After(n)
		if !kept {
			break
		}
		is.ticks = append(is.ticks, x)
		n = x.N
	}
	for _, c := range is.names {
		l, e := q.Batch(c.Name)
		is.opens = append(is.opens, opened{l, e})
	}
	return is
}

func sameTick(a, b api.Tick) bool {
	return a.N == b.N && a.At == b.At && snap.Same(a.Snap, b.Snap)
}

func sameOpened(a, b opened) bool {
	return a.e == b.e && slices.Equal(a.l, b.l)
}

func (a told) same(b told) bool {
	return a.id == b.id && a.cur == b.cur && a.last == b.last && a.free == b.free &&
		slices.EqualFunc(a.lists[:], b.lists[:], slices.Equal) && slices.EqualFunc(a.ticks, b.ticks, sameTick) &&
		slices.Equal(a.names, b.names) && slices.Equal(a.items, b.items) && slices.EqualFunc(a.opens, b.opens, sameOpened)
}

// is tells a fault if a queue doesn't tell just that of itself.
func is(t *testing.T, q *queue.Queue, want told) {
	t.Helper()
	if got := tell(q); !got.same(want) {
		t.Fatalf("%s, not %s", short(got), short(want))
	}
}

// keeps tells a fault if a call changes anything.
func keeps(t *testing.T, q *queue.Queue, call func()) {
	t.Helper()
	was := tell(q)
	call()
	is(t, q, was)
}

// refuses tells a fault if a call tells another error, or changes anything.
func refuses(t *testing.T, q *queue.Queue, want api.Errno, call func() api.Errno) {
	t.Helper()
	keeps(t, q, func() {
		t.Helper()
		if e := call(); e != want {
			t.Fatalf("%d, not %d", e, want)
		}
	})
}

// short is a value's text, with as much of it as there is room for.
func short(x any) string {
	return fmt.Sprintf("%.1500s", fmt.Sprintf("%+v", x))
}

// letters is that letter, as often as that.
func letters(letter string, times int) string {
	return strings.Repeat(letter, times)
}

// names are such as a consumer may have: of one byte, of MaxText, of any bytes, near to others.
func names() []string {
	return []string{
		"a", "A", "b", "aa", "a\x00", "\x00", "\x00a", " ", "\n", "0", api.Replica, "\xff", "\xff\xff", "é", "e\u0301", "\xf0\x9f",
		letters("a", api.MaxText), letters("a", api.MaxText-1), letters("a", api.MaxText-1) + "b", letters("é", api.MaxText/2), letters("\x00", api.MaxText),
	}
}

// misnomers are such as none may have.
func misnomers() []string {
	return []string{"", letters("a", api.MaxText+1), letters("\xff", api.MaxText+1), letters("é", api.MaxText/2+1), letters("a", 255), letters("a", 256), letters("b", 1<<16)}
}

// numbers are such as are on some edge.
func numbers() []int64 {
	return []int64{
		deep, deep + 1, -1<<32 - 1, -1 << 32, -1<<32 + 1, -1 << 31, -2, -1, 0, 1, 2, 3, 4, 5, 6, 7, 40, 41, 63, 64, 65, 255, 256, 257,
		api.MaxTxid - 1, api.MaxTxid, api.MaxTxid + 1, 1<<31 - 1, 1 << 31, 1<<32 - 1, 1 << 32, 1<<32 + 1, far - 1, far,
	}
}
