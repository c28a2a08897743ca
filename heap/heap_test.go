package heap_test

import (
	"fmt"
	"math"
	"slices"
	"strings"
	"testing"

	"carrier/api"
	"carrier/heap"
	"carrier/txn"
)

const (
	far  = math.MaxInt64
	deep = math.MinInt64
)

// The transactions of a laid heap, by letters ('-' is nobody); mine is the view
// that most tests look through.
//
//	o           open, mine's own
//	x           open, another one's
//	c, d, e, f  committed, and seen by mine
//	h           committed, but hidden from mine: open to its snapshot
//	l           committed, but too late for mine: not below its Max
//	a, b        aborted
//	n           never begun
var number = map[byte]int64{
	'-': 0, 'c': 1, 'h': 2, 'a': 3, 'd': 4, 'b': 5, 'e': 6, 'f': 7, 'x': 10, 'o': 11, 'l': 12, 'n': 13,
}

func mine() heap.View {
	return heap.View{Snap: at(12, 2), Own: number['o']}
}

// births and deaths are the letters of the rows, and of the columns, of a table.
const (
	births = "ochlxan"
	deaths = "-ochlxan"
)

// one is a version to be laid: by is the letter of its birth and that of its death.
// Of those with one key no two have one birth, and none has a death that is the birth of one ahead of it.
type one struct {
	key  int64
	by   string
	text string
}

func at(m int64, open ...int64) api.Snapshot {
	return api.Snapshot{Max: m, Open: open}
}

func row(key int64, text string) api.Row {
	return api.Row{Key: key, Text: text}
}

// lay is a heap with just these versions, in their order, and its manager.
func lay(t *testing.T, versions ...one) (*heap.Heap, *txn.Manager) {
	t.Helper()
	m := txn.New()
	h := heap.New(m)
	for _, v := range versions {
		birth, death := number[v.by[0]], number[v.by[1]]
		// All that were laid yet are aborted, or not begun: none of them is in the way.
		m.Load(birth, nil)
		m.Begin()
		if e := h.Insert(heap.View{Own: birth}, row(v.key, v.text)); e != api.OK {
			t.Fatal(v, e)
		}
		if death == 0 {
			continue
		}
		m.Load(20, []int64{birth, death})
		if e := h.Redo(death, []heap.Op{{Gone: true, Row: row(v.key, "")}}); e != api.OK {
			t.Fatal(v, e)
		}
	}
	m.Load(10, []int64{1, 2, 4, 6, 7})
	for range 3 {
		m.Begin()
	}
	m.Commit(12)
	return h, m
}

// views are all who may ask a laid heap: each transaction, and nobody, with snapshots of all kinds.
func views() []heap.View {
	var l []heap.View
	for _, s := range []api.Snapshot{
		{}, at(1), at(12, 2), at(12), at(13, 1, 4, 10, 11), at(far), at(5, 2, 3), at(13, 2), at(deep), at(-1, 0, -7),
		at(12, 12, 2, 2, 1), at(far, far, 4, deep),
	} {
		for _, own := range []int64{deep, -1, 0, 1, 2, 3, 4, 5, 6, 9, 10, 11, 12, 13, 14, far} {
			l = append(l, heap.View{Snap: s, Own: own})
		}
	}
	return l
}

// told is all that a heap tells to anybody.
func told(h *heap.Heap) string {
	l := []string{fmt.Sprint(h.Len())}
	for _, v := range views() {
		rows := h.Scan(v)
		l = append(l, fmt.Sprint(rows))
		for _, key := range []int64{deep, -5, -1, 0, 1, 3, 5, 6, 7, far} {
			r, ok := h.Get(v, key)
			l = append(l, fmt.Sprint(r, ok))
		}
	}
	return strings.Join(l, "\n")
}

// as: the heap must tell all that a heap with just these versions tells.
func as(t *testing.T, h *heap.Heap, versions ...one) {
	t.Helper()
	want, _ := lay(t, versions...)
	if got, want := told(h), told(want); got != want {
		t.Fatalf("not as with %v:\n%s", versions, unlike(got, want))
	}
}

// unlike is the first line in which two texts aren't like.
func unlike(got, want string) string {
	g, w := strings.Split(got, "\n"), strings.Split(want, "\n")
	for i := range min(len(g), len(w)) {
		if g[i] != w[i] {
			return fmt.Sprintf("%d: %s, not %s", i, g[i], w[i])
		}
	}
	return ""
}

// table calls check for each birth and each death, with the letter that stands there.
func table(t *testing.T, rows string, check func(t *testing.T, by string, letter byte)) {
	t.Helper()
	lines := strings.Fields(rows)
	if len(lines) != len(births) {
		t.Fatal(len(lines))
	}
	for i, line := range lines {
		if len(line) != len(deaths) {
			t.Fatal(line)
		}
		for j := range deaths {
			by := births[i:i+1] + deaths[j:j+1]
			t.Run(by, func(t *testing.T) { check(t, by, line[j]) })
		}
	}
}

// sees holds Scan against rows, and Get against the first of each key, and against a key that isn't there.
func sees(t *testing.T, h *heap.Heap, v heap.View, want ...api.Row) {
	t.Helper()
	if got := h.Scan(v); !slices.Equal(got, want) {
		t.Fatalf("%v: Scan: %v, not %v", v, got, want)
	}
	first := map[int64]api.Row{}
	for i := len(want) - 1; i >= 0; i-- {
		first[want[i].Key] = want[i]
	}
	for _, key := range []int64{deep, deep + 1, -5, -1, 0, 1, 2, 3, 4, 5, 6, 7, 9, 1 << 32, far - 1, far} {
		wanted, there := first[key]
		if got, ok := h.Get(v, key); got != wanted || ok != there {
			t.Fatalf("%v: Get(%d): %v, %t, not %v, %t", v, key, got, ok, wanted, there)
		}
	}
}

// begin is the view of a transaction that begins just now.
func begin(t *testing.T, m *txn.Manager) heap.View {
	t.Helper()
	x, e := m.Begin()
	if e != api.OK {
		t.Fatal(e)
	}
	return heap.View{Snap: m.Now(), Own: x}
}

// ok: what was done must have told no error.
func ok(t *testing.T, e api.Errno) {
	t.Helper()
	if e != api.OK {
		t.Fatal(e)
	}
}

func TestOfTheDocument(t *testing.T) {
	m := txn.New()
	h := heap.New(m)
	first, second := begin(t, m), begin(t, m)
	ok(t, h.Insert(first, row(5, "a")))
	if e := h.Insert(second, row(5, "b")); e != api.ErrConflict {
		t.Error(e)
	}
	if h.Len() != 1 {
		t.Error(h.Len())
	}
}

func TestNew(t *testing.T) {
	m := txn.New()
	h := heap.New(m)
	for _, v := range append(views(), begin(t, m)) {
		sees(t, h, v)
	}
	if h.Len() != 0 || h.Vacuum(at(far)) != 0 {
		t.Error(h.Len())
	}
}

func TestSeen(t *testing.T) {
	// deaths: -ochlxan
	table(t, `
		y..yyyyy
		y..yyyyy
		........
		........
		........
		........
		........
	`, func(t *testing.T, by string, letter byte) {
		h, _ := lay(t, one{5, by, "a"})
		if letter == 'y' {
			sees(t, h, mine(), row(5, "a"))
		} else {
			sees(t, h, mine())
		}
	})
}

// Whoever isn't open, or isn't anybody, has no birth, and no death, of its own but those by its number.
func TestSeenByOthers(t *testing.T) {
	for _, c := range []struct {
		name string
		view heap.View
		of   string // by whom it sees what was done
	}{
		{"own 0", heap.View{Snap: at(12, 2)}, "c"},
		{"own below 0", heap.View{Snap: at(12, 2), Own: -1}, "c"},
		{"own is the least number", heap.View{Snap: at(12, 2), Own: deep}, "c"},
		{"own is the greatest number", heap.View{Snap: at(12, 2), Own: far}, "c"},
		{"own has done nothing", heap.View{Snap: at(12, 2), Own: 9}, "c"},
		{"own never begun", heap.View{Snap: at(12, 2), Own: 13}, "cn"},
		{"own aborted", heap.View{Snap: at(12, 2), Own: 3}, "ca"},
		{"own is another open one", heap.View{Snap: at(12, 2), Own: 10}, "cx"},
		{"own committed, and seen", heap.View{Snap: at(12, 2), Own: 1}, "c"},
		{"own committed, and hidden", heap.View{Snap: at(12, 2), Own: 2}, "ch"},
		{"own committed, and too late", heap.View{Snap: at(12, 2), Own: 12}, "cl"},
		{"own open to its snapshot", heap.View{Snap: at(12, 2, 11), Own: 11}, "co"},
		{"no snapshot, own committed", heap.View{Own: 1}, "c"},
		{"no snapshot, own aborted", heap.View{Own: 3}, "a"},
		{"no snapshot, own open", heap.View{Own: 11}, "o"},
		{"no snapshot, own 0", heap.View{}, ""},
		{"all are seen", heap.View{Snap: at(far)}, "chl"},
		{"all are seen, own open", heap.View{Snap: at(far), Own: 11}, "chlo"},
		{"Max is the last one", heap.View{Snap: at(12)}, "ch"},
		{"Max is just above", heap.View{Snap: at(13)}, "chl"},
		{"Max is the first one", heap.View{Snap: at(1)}, ""},
		{"Max 2", heap.View{Snap: at(2)}, "c"},
		{"Max is the least number", heap.View{Snap: at(deep, 1), Own: 11}, "o"},
		{"Open falls, one twice", heap.View{Snap: at(12, 12, 2, 2, 0, -5, 1)}, ""},
		{"Open has numbers that nobody has", heap.View{Snap: at(far, 0, -1, deep, far)}, "chl"},
	} {
		for _, birth := range births {
			for _, death := range deaths {
				by := string(birth) + string(death)
				t.Run(c.name+" "+by, func(t *testing.T) {
					h, _ := lay(t, one{5, by, "a"})
					if strings.ContainsRune(c.of, birth) && !strings.ContainsRune(c.of, death) {
						sees(t, h, c.view, row(5, "a"))
					} else {
						sees(t, h, c.view)
					}
				})
			}
		}
	}
}

func TestSeveralOfOneKey(t *testing.T) {
	h, _ := lay(t,
		one{5, "ch", "first"}, one{3, "c-", "three"}, one{5, "xa", "x"}, one{5, "db", "second"},
		one{-5, "c-", "below"}, one{5, "ef", "dead"}, one{5, "ob", "third"}, one{5, "h-", "hidden"},
	)
	sees(t, h, mine(), row(-5, "below"), row(3, "three"), row(5, "first"), row(5, "second"), row(5, "third"))
	sees(t, h, heap.View{Snap: at(12, 2)}, row(-5, "below"), row(3, "three"), row(5, "first"), row(5, "second"))
	sees(t, h, heap.View{Snap: at(far)}, row(-5, "below"), row(3, "three"), row(5, "second"), row(5, "hidden"))
	sees(t, h, heap.View{Snap: at(12, 2, 7), Own: 10}, row(-5, "below"), row(3, "three"), row(5, "first"), row(5, "x"), row(5, "second"), row(5, "dead"))
	if h.Len() != 8 {
		t.Error(h.Len())
	}
}

// The order of their births is meant, not that of their numbers.
func TestBornInNoOrder(t *testing.T) {
	h, _ := lay(t, one{5, "l-", "l"}, one{5, "d-", "d"}, one{5, "o-", "o"}, one{5, "c-", "c"}, one{5, "h-", "h"})
	sees(t, h, heap.View{Snap: at(far), Own: 11}, row(5, "l"), row(5, "d"), row(5, "o"), row(5, "c"), row(5, "h"))
	sees(t, h, mine(), row(5, "d"), row(5, "o"), row(5, "c"))
	sees(t, h, heap.View{Snap: at(3)}, row(5, "c"), row(5, "h"))
}

func TestKeysRise(t *testing.T) {
	keys := []int64{7, deep, 0, far, -1, 5, far - 1, 1, deep + 1, -5, 1 << 32, 6}
	m := txn.New()
	h := heap.New(m)
	v := begin(t, m)
	var want []api.Row
	for i, key := range keys {
		r := row(key, fmt.Sprint("t", i))
		ok(t, h.Insert(v, r))
		want = append(want, r)
	}
	slices.SortFunc(want, func(a, b api.Row) int {
		if a.Key < b.Key {
			return -1
		}
		return 1
	})
	sees(t, h, v, want...)
	ok(t, m.Commit(v.Own))
	sees(t, h, begin(t, m), want...)
	rows, e := h.Truncate(begin(t, m))
	if !slices.Equal(rows, want) || e != api.OK {
		t.Error(rows, e)
	}
}

func TestTextsOfAllKinds(t *testing.T) {
	m := txn.New()
	h := heap.New(m)
	v := begin(t, m)
	var want []api.Row
	for i, text := range []string{"", "a", "\x00", "\xff\xfe", "ä", strings.Repeat("x", api.MaxText), strings.Repeat("y", 100000)} {
		ok(t, h.Insert(v, row(int64(i), text)))
		want = append(want, row(int64(i), text))
	}
	sees(t, h, v, want...)
	ok(t, h.Update(v, row(6, "")))
	want[6].Text = ""
	sees(t, h, v, want...)
}

func TestManyKeys(t *testing.T) {
	m := txn.New()
	h := heap.New(m)
	v := begin(t, m)
	const n = 20000
	for i := range int64(n) {
		ok(t, h.Insert(v, row(i*7919%n, "a")))
	}
	ok(t, m.Commit(v.Own))
	v = begin(t, m)
	for i := range int64(n) {
		if i%2 == 0 {
			ok(t, h.Update(v, row(i, "b")))
		} else {
			ok(t, h.Delete(v, i))
		}
	}
	rows := h.Scan(v)
	if len(rows) != n/2 || h.Len() != n+n/2 {
		t.Fatal(len(rows), h.Len())
	}
	for i, r := range rows {
		if r != row(int64(i)*2, "b") {
			t.Fatal(i, r)
		}
	}
	ok(t, m.Commit(v.Own))
	if gone := h.Vacuum(m.Now()); gone != n || h.Len() != n/2 {
		t.Error(gone, h.Len())
	}
}

func TestNil(t *testing.T) {
	for name, h := range map[string]*heap.Heap{"nil": nil, "its manager is nil": heap.New(nil)} {
		t.Run(name, func(t *testing.T) {
			for range 2 {
				for _, v := range views() {
					nothing(t, h, v)
				}
			}
		})
	}
}

// nothing: all calls must tell that there is no heap, whatever they are handed.
func nothing(t *testing.T, h *heap.Heap, v heap.View) {
	t.Helper()
	sees(t, h, v)
	for _, r := range []api.Row{{}, row(5, "a"), row(deep, strings.Repeat("x", 41))} {
		if e := h.Insert(v, r); e != api.ErrNone {
			t.Fatal(e)
		}
		if e := h.Update(v, r); e != api.ErrNone {
			t.Fatal(e)
		}
		if e := h.Delete(v, r.Key); e != api.ErrNone {
			t.Fatal(e)
		}
		for _, ops := range [][]heap.Op{nil, {}, {{Row: r}}, {{Gone: true, Row: r}, {Row: r}}} {
			if e := h.Redo(v.Own, ops); e != api.ErrNone {
				t.Fatal(e)
			}
		}
	}
	if rows, e := h.Truncate(v); len(rows) != 0 || e != api.ErrNone {
		t.Fatal(rows, e)
	}
	if n := h.Vacuum(v.Snap); n != 0 || h.Len() != 0 {
		t.Fatal(n, h.Len())
	}
}
