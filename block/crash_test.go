package block_test

import (
	"math"
	"strings"
	"testing"

	"carrier/api"
	"carrier/block"
)

const untorn = api.BlockSize

// put is a write: of a block, these first bytes.
type put struct {
	i int
	p string
}

// crashed is a device of three blocks, of which the first two are safe, and what a crash leaves of these writes.
func crashed(t *testing.T, l []put, lost []bool, torn int) *block.Device {
	t.Helper()
	d := block.New(3)
	write(t, d, 0, "aaaa")
	write(t, d, 1, "bbbb")
	d.Sync()
	for _, w := range l {
		write(t, d, w.i, w.p)
	}
	d.Crash(lost, torn)
	waits(t, d, 0)
	return d
}

func TestCrashLoses(t *testing.T) {
	l := []put{{0, "1"}, {1, "22"}, {2, "333"}, {0, "44"}, {1, "5"}}
	all := []string{"44aa", "52bb", "333"}
	for _, c := range []struct {
		name string
		lost []bool
		want []string
	}{
		{"told nothing", nil, all},
		{"told nothing, empty", []bool{}, all},
		{"told of each that it isn't", make([]bool, 5), all},
		{"the first one", []bool{true}, all},
		{"the first one, told of all", []bool{true, false, false, false, false}, all},
		{"the second one", []bool{false, true}, []string{"44aa", "5bbb", "333"}},
		{"the third one", []bool{false, false, true}, []string{"44aa", "52bb", ""}},
		{"the fourth one", []bool{false, false, false, true}, []string{"1aaa", "52bb", "333"}},
		{"the last one", []bool{false, false, false, false, true}, []string{"44aa", "22bb", "333"}},
		{"all", []bool{true, true, true, true, true}, []string{"aaaa", "bbbb", ""}},
		{"all but the first one", []bool{false, true, true, true, true}, []string{"1aaa", "bbbb", ""}},
		{"all but the third one", []bool{true, true, false, true, true}, []string{"aaaa", "bbbb", "333"}},
		{"all but the last one", []bool{true, true, true, true}, []string{"aaaa", "5bbb", ""}},
		{"every other one", []bool{true, false, true, false, true}, []string{"44aa", "22bb", ""}},
		{"told too much", []bool{false, false, false, false, false, true, true, true}, all},
		{"told too much, the last one, too", []bool{false, false, false, false, true, false, false}, []string{"44aa", "22bb", "333"}},
	} {
		t.Run(c.name, func(t *testing.T) {
			holds(t, crashed(t, l, c.lost, untorn), c.want...)
		})
	}
}

func TestCrashTears(t *testing.T) {
	for _, c := range []struct {
		name string
		p    string
		torn int
		want string
	}{
		{"at 0", "xyz", 0, "aaaa"},
		{"at 1", "xyz", 1, "xaaa"},
		{"at 2", "xyz", 2, "xyaa"},
		{"at its length", "xyz", 3, "xyza"},
		{"beyond it", "xyz", 4, "xyza"},
		{"at a block's length", "xyz", 32, "xyza"},
		{"beyond a block's length", "xyz", 33, "xyza"},
		{"at the greatest", "xyz", math.MaxInt, "xyza"},
		{"below 0", "xyz", -1, "aaaa"},
		{"far below 0", "xyz", -32, "aaaa"},
		{"at the least", "xyz", math.MinInt, "aaaa"},
		{"of no byte, at 0", "", 0, "aaaa"},
		{"of no byte, beyond it", "", 5, "aaaa"},
		{"of no byte, below 0", "", -5, "aaaa"},
		{"a whole block, at its last byte", strings.Repeat("w", 32), 31, strings.Repeat("w", 31)},
		{"a whole block, at its length", strings.Repeat("w", 32), 32, strings.Repeat("w", 32)},
		{"a whole block, beyond it", strings.Repeat("w", 32), 33, strings.Repeat("w", 32)},
		{"a whole block, within", strings.Repeat("w", 32), 3, "wwwa"},
	} {
		t.Run(c.name, func(t *testing.T) {
			holds(t, crashed(t, []put{{0, c.p}}, nil, c.torn), c.want, "bbbb", "")
			holds(t, crashed(t, []put{{2, "ahead"}, {0, c.p}}, []bool{false}, c.torn), c.want, "bbbb", "ahead")
		})
	}
}

func TestCrashTearsJustTheLastOne(t *testing.T) {
	l := []put{{0, "111"}, {1, "222"}, {2, "333"}}
	for _, c := range []struct {
		name string
		lost []bool
		want []string
	}{
		{"none lost", nil, []string{"111a", "222b", "3"}},
		{"the first one lost", []bool{true}, []string{"aaaa", "222b", "3"}},
		{"the one ahead of it lost", []bool{false, true}, []string{"111a", "bbbb", "3"}},
		{"all ahead of it lost", []bool{true, true}, []string{"aaaa", "bbbb", "3"}},
		{"itself lost", []bool{false, false, true}, []string{"111a", "222b", ""}},
		{"itself lost, and the one ahead of it", []bool{false, true, true}, []string{"111a", "bbbb", ""}},
		{"told too much", []bool{false, false, false, true}, []string{"111a", "222b", "3"}},
		{"itself lost, told too much", []bool{false, false, true, false}, []string{"111a", "222b", ""}},
	} {
		t.Run(c.name, func(t *testing.T) {
			holds(t, crashed(t, l, c.lost, 1), c.want...)
		})
	}
}

// What a write that is torn doesn't reach is what an older write of that block left.
func TestCrashTearsAboveAnOlderWrite(t *testing.T) {
	l := []put{{0, "1111"}, {0, "222"}}
	for _, c := range []struct {
		name string
		lost []bool
		torn int
		want string
	}{
		{"at 0", nil, 0, "1111"},
		{"below 0", nil, -7, "1111"},
		{"within", nil, 2, "2211"},
		{"at its length", nil, 3, "2221"},
		{"beyond it", nil, 9, "2221"},
		{"the older one lost, within", []bool{true}, 2, "22aa"},
		{"the older one lost, at 0", []bool{true}, 0, "aaaa"},
		{"the torn one lost", []bool{false, true}, 2, "1111"},
		{"both lost", []bool{true, true}, 2, "aaaa"},
	} {
		t.Run(c.name, func(t *testing.T) {
			holds(t, crashed(t, l, c.lost, c.torn), c.want, "bbbb", "")
		})
	}
}

func TestCrashWritesInOrder(t *testing.T) {
	l := []put{{0, "1111"}, {1, "other"}, {0, "222"}, {0, "33"}, {0, "4"}}
	for _, c := range []struct {
		lost []bool
		want string
	}{
		{nil, "4321"},
		{[]bool{false, false, true}, "4311"},
		{[]bool{false, false, false, true}, "4221"},
		{[]bool{true}, "432a"},
		{[]bool{false, false, false, false, true}, "3321"},
	} {
		holds(t, crashed(t, l, c.lost, untorn), c.want, "other", "")
	}
}

func TestCrashOfOneThatIsLostIsNotTorn(t *testing.T) {
	for _, torn := range []int{0, 1, 3, 32, -4, math.MaxInt, math.MinInt} {
		holds(t, crashed(t, []put{{0, "xyz"}}, []bool{true}, torn), "aaaa", "bbbb", "")
	}
}

func TestCrashWhenNothingWaits(t *testing.T) {
	for _, lost := range [][]bool{nil, {}, {true}, {false, true, true}} {
		for _, torn := range []int{0, 1, 32, -1, math.MaxInt, math.MinInt} {
			holds(t, crashed(t, nil, lost, torn), "aaaa", "bbbb", "")
			d := block.New(0)
			d.Crash(lost, torn)
			holds(t, d)
		}
	}
}

// What a crash left is safe: nothing waits any more, so nothing comes again, or is lost, later on.
func TestWhatACrashLeftIsSafe(t *testing.T) {
	l := []put{{0, "xyz"}, {1, "uvw"}}
	d := crashed(t, l, []bool{true}, 2)
	holds(t, d, "aaaa", "uvbb", "")
	d.Crash([]bool{true, true}, 0)
	holds(t, d, "aaaa", "uvbb", "")
	d.Crash(nil, untorn)
	holds(t, d, "aaaa", "uvbb", "")
	d.Sync()
	holds(t, d, "aaaa", "uvbb", "")
	write(t, d, 1, "n")
	waits(t, d, 1)
	holds(t, d, "aaaa", "nvbb", "")
	safe(t, d, "aaaa", "uvbb", "")
}

// The i-th is told of those since the last Sync, or Crash.
func TestCrashCountsFromTheLastSync(t *testing.T) {
	d := block.New(2)
	write(t, d, 0, "a")
	write(t, d, 0, "b")
	d.Sync()
	write(t, d, 0, "c")
	write(t, d, 1, "d")
	d.Crash([]bool{true}, untorn)
	holds(t, d, "b", "d")
	write(t, d, 0, "e")
	write(t, d, 1, "f")
	d.Crash([]bool{false, true}, 0)
	holds(t, d, "e", "d")
}

// A Write that was refused doesn't wait, so no place of lost is its own.
func TestCrashDoesNotCountWhatWasRefused(t *testing.T) {
	d := block.New(2)
	d.Write(2, []byte("no"))
	write(t, d, 0, "a")
	d.Write(0, make([]byte, 33))
	write(t, d, 1, "bc")
	d.Write(-1, nil)
	d.Crash([]bool{false, false, true}, 1)
	holds(t, d, "a", "b")
}

func TestCrashOfTheDocument(t *testing.T) {
	d := block.New(1)
	write(t, d, 0, "ab")
	write(t, d, 0, "cd")
	d.Crash([]bool{false, true}, 0)
	holds(t, d, "ab")
}
