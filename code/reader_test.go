package code_test

import (
	"bytes"
	"math"
	"math/big"
	"strings"
	"testing"

	"carrier/api"
	"carrier/code"
)

var (
	manyNums  = []uint64{0, 1, 2, 126, 127, 128, 129, 255, 256, 300, 16383, 16384, 1 << 32, 1<<63 - 1, 1 << 63, 1<<63 + 1, math.MaxUint64 - 1, math.MaxUint64}
	manyInts  = []int64{0, 1, -1, 2, -2, 63, 64, -64, -65, 300, -300, 1 << 40, -1 << 40, math.MaxInt64 - 1, math.MaxInt64, math.MinInt64 + 1, math.MinInt64}
	manyTexts = []string{"", "a", "ab", "\x00", "\x80\xff", "äöü", strings.Repeat("x", 127), strings.Repeat("x", 128), strings.Repeat("y", 5000)}
)

// readNothing tells a fault if the reader, behind an error, tells anything but that.
func readNothing(t *testing.T, r *code.Reader, want api.Errno) {
	t.Helper()
	for range 2 {
		if r.Error() != want || r.End() != want || r.Left() != 0 {
			t.Error(r.Error(), r.End(), r.Left(), "not", want)
		}
		if n, i, s := r.Num(), r.Int(), r.Text(99); n != 0 || i != 0 || s != "" {
			t.Error("read", n, i, s)
		}
	}
}

func TestReaderReadsWhatWasLaid(t *testing.T) {
	w := &code.Writer{}
	for _, n := range manyNums {
		w.Num(n)
	}
	for _, n := range manyInts {
		w.Int(n)
	}
	for _, s := range manyTexts {
		w.Text(s)
	}
	r := code.NewReader(w.Bytes())
	for _, n := range manyNums {
		if got := r.Num(); got != n {
			t.Errorf("Num %d: %d", n, got)
		}
	}
	for _, n := range manyInts {
		if got := r.Int(); got != n {
			t.Errorf("Int %d: %d", n, got)
		}
	}
	for _, s := range manyTexts {
		if got := r.Text(len(s)); got != s {
			t.Errorf("Text %q: %q", s, got)
		}
	}
	if r.Error() != api.OK || r.Left() != 0 || r.End() != api.OK {
		t.Error(r.Error(), r.Left(), r.End())
	}
}

func TestReaderOfNoBytes(t *testing.T) {
	for _, p := range [][]byte{nil, {}} {
		r := code.NewReader(p)
		if r.Error() != api.OK || r.Left() != 0 || r.End() != api.OK {
			t.Error(r.Error(), r.Left(), r.End())
		}
		if r.Num() != 0 {
			t.Error("Num")
		}
		readNothing(t, r, api.ErrShort)
		r = code.NewReader(p)
		if r.Int() != 0 {
			t.Error("Int")
		}
		readNothing(t, r, api.ErrShort)
		r = code.NewReader(p)
		if r.Text(9) != "" {
			t.Error("Text")
		}
		readNothing(t, r, api.ErrShort)
	}
}

// more is n bytes, each of 128 or more, of which no digit is 0.
func more(n int) string {
	return strings.Repeat("\xff", n)
}

// noughts is n bytes, each of just 128.
func noughts(n int) string {
	return strings.Repeat("\x80", n)
}

func TestReaderNumEdges(t *testing.T) {
	for _, c := range []struct {
		name string
		p    string
		n    uint64
		e    api.Errno
	}{
		{"one byte", "\x7f", 127, api.OK},
		{"one byte, 0", "\x00", 0, api.OK},
		{"two bytes", "\xac\x02", 300, api.OK},
		{"noughts within", "\x80\x80\x01", 16384, api.OK},
		{"2^64 - 1", more(9) + "\x01", math.MaxUint64, api.OK},
		{"2^63", noughts(9) + "\x01", 1 << 63, api.OK},
		{"2^64", noughts(9) + "\x02", 0, api.ErrForm},
		{"above 2^64", more(9) + "\x02", 0, api.ErrForm},
		{"far above 2^64", more(9) + "\x7f", 0, api.ErrForm},
		{"the last of two is 0", "\x80\x00", 0, api.ErrForm},
		{"the last of two is 0, behind a digit", "\xff\x00", 0, api.ErrForm},
		{"the last of three is 0", "\x80\x80\x00", 0, api.ErrForm},
		{"the last of ten is 0", more(9) + "\x00", 0, api.ErrForm},
		{"ten of 128 or more, none behind", noughts(10), 0, api.ErrForm},
		{"eleven bytes", noughts(10) + "\x01", 0, api.ErrForm},
		{"eleven bytes, the last is 0", more(10) + "\x00", 0, api.ErrForm},
		{"twenty of 128 or more", more(20), 0, api.ErrForm},
		{"one of 128 or more", "\x80", 0, api.ErrShort},
		{"nine of 128 or more", more(9), 0, api.ErrShort},
	} {
		r := code.NewReader([]byte(c.p))
		if n := r.Num(); n != c.n || r.Error() != c.e || r.End() != c.e {
			t.Errorf("%s: %d %d %d", c.name, n, r.Error(), r.End())
		}
		if c.e != api.OK {
			readNothing(t, r, c.e)
		}
	}
}

// asWritten reads a number as the promise words it, by numbers of any size.
func asWritten(p []byte) (*big.Int, int, api.Errno) {
	end := 0
	for end < len(p) && p[end] >= 128 {
		end++
	}
	if end >= 10 {
		return nil, 0, api.ErrForm
	}
	if end == len(p) {
		return nil, 0, api.ErrShort
	}
	n := new(big.Int)
	for i := end; i >= 0; i-- {
		n.Mul(n, big.NewInt(128))
		n.Add(n, big.NewInt(int64(p[i]%128)))
	}
	if n.BitLen() > 64 || end > 0 && p[end] == 0 {
		return nil, 0, api.ErrForm
	}
	return n, end + 1, api.OK
}

func checkAsWritten(t *testing.T, p []byte) {
	t.Helper()
	n, size, e := asWritten(p)
	r := code.NewReader(p)
	got := r.Num()
	if r.Error() != e {
		t.Fatalf("%x: error %d, not %d", p, r.Error(), e)
	}
	if e != api.OK {
		readNothing(t, r, e)
		return
	}
	if got != n.Uint64() || r.Left() != len(p)-size {
		t.Fatalf("%x: %d, %d left", p, got, r.Left())
	}
	signed := code.NewReader(p)
	half := new(big.Int).Rsh(n, 1)
	if n.Bit(0) == 1 {
		half.Neg(half.Add(half, big.NewInt(1)))
	}
	if i := signed.Int(); !half.IsInt64() || i != half.Int64() {
		t.Fatalf("%x: Int is %d, not %d", p, i, half)
	}
}

func TestReaderNumOfAllShortBytes(t *testing.T) {
	for a := range 256 {
		checkAsWritten(t, []byte{byte(a)})
		for b := range 256 {
			checkAsWritten(t, []byte{byte(a), byte(b)})
		}
	}
}

func TestReaderNumOfLongBytes(t *testing.T) {
	for n := range 13 {
		for _, head := range []string{more(n), noughts(n), strings.Repeat("\xaa", n)} {
			checkAsWritten(t, []byte(head))
			for tail := range 256 {
				checkAsWritten(t, append([]byte(head), byte(tail)))
				checkAsWritten(t, append([]byte(head), byte(tail), 1, 0x80))
			}
		}
	}
}

func FuzzReaderNum(f *testing.F) {
	for _, n := range manyNums {
		f.Add(num(n))
	}
	f.Add([]byte(noughts(10)))
	f.Fuzz(checkAsWritten)
}

func TestReaderText(t *testing.T) {
	for _, c := range []struct {
		name string
		p    string
		most int
		want string
		e    api.Errno
	}{
		{"as long as most", "\x02ab", 2, "ab", api.OK},
		{"shorter than most", "\x02ab", 40, "ab", api.OK},
		{"most is the greatest", "\x02ab", math.MaxInt, "ab", api.OK},
		{"no byte", "\x00", 0, "", api.OK},
		{"no byte, most below 0", "\x00", -1, "", api.OK},
		{"no byte, most the least", "\x00", math.MinInt, "", api.OK},
		{"longer than most", "\x02ab", 1, "", api.ErrForm},
		{"longer than 0", "\x01a", 0, "", api.ErrForm},
		{"most below 0", "\x01a", -5, "", api.ErrForm},
		{"most the least", "\x01a", math.MinInt, "", api.ErrForm},
		{"longer than most is told behind the number", "\x03", 2, "", api.ErrForm},
		{"longer than most, and bytes aren't there", "\x03ab", 2, "", api.ErrForm},
		{"bytes aren't there", "\x03ab", 3, "", api.ErrShort},
		{"only the number is there", "\x01", 1, "", api.ErrShort},
		{"the number isn't there", "", 1, "", api.ErrShort},
		{"the number ends too soon", "\x82", 1, "", api.ErrShort},
		{"the number isn't so", "\x82\x00ab", 9, "", api.ErrForm},
		{"the number isn't so, most below 0", "\x82\x00ab", -9, "", api.ErrForm},
		{"2^63 bytes", string(num(1 << 63)), math.MaxInt, "", api.ErrForm},
		{"2^63 - 1 bytes", string(num(1<<63 - 1)), math.MaxInt, "", api.ErrShort},
		{"2^64 - 1 bytes", string(num(math.MaxUint64)) + "ab", math.MaxInt, "", api.ErrForm},
		{"2^64 - 1 bytes, most below 0", string(num(math.MaxUint64)) + "ab", -1, "", api.ErrForm},
	} {
		r := code.NewReader([]byte(c.p))
		if s := r.Text(c.most); s != c.want || r.Error() != c.e || r.End() != c.e {
			t.Errorf("%s: %q %d %d", c.name, s, r.Error(), r.End())
		}
		if c.e != api.OK {
			readNothing(t, r, c.e)
		}
	}
}

func TestReaderTextIsCutThere(t *testing.T) {
	r := code.NewReader([]byte("\x02abcd"))
	if s := r.Text(2); s != "ab" || r.Left() != 2 {
		t.Error(s, r.Left())
	}
}

func TestReaderLeft(t *testing.T) {
	r := code.NewReader([]byte("\x05\xac\x02\x02ab\x03"))
	for _, c := range []struct {
		left int
		read func()
	}{
		{7, func() { r.Num() }},
		{6, func() { r.Int() }},
		{4, func() { r.Text(2) }},
		{1, func() { r.Error() }},
		{1, func() { r.End() }},
		{1, func() { r.Num() }},
		{0, func() { r.Num() }},
		{0, func() {}},
	} {
		if r.Left() != c.left {
			t.Error(r.Left(), c.left)
		}
		c.read()
	}
}

// An error behind which there are bytes, so that a reader that went on would tell something.
func TestReaderTellsNothingBehindAnError(t *testing.T) {
	r := code.NewReader([]byte("\x07\x80\x00\x05\x02\x01a"))
	if r.Num() != 7 || r.Num() != 0 {
		t.Error("Num")
	}
	readNothing(t, r, api.ErrForm)
	r = code.NewReader([]byte("\x07\x80\x00\x05\x02\x01a"))
	if r.Num() != 7 || r.Int() != 0 {
		t.Error("Int")
	}
	readNothing(t, r, api.ErrForm)
	r = code.NewReader([]byte("\x03abc\x05\x02\x01a"))
	if r.Text(2) != "" {
		t.Error("Text")
	}
	readNothing(t, r, api.ErrForm)
	r = code.NewReader([]byte("\x09\x05\x02\x01a"))
	if r.Text(9) != "" {
		t.Error("Text")
	}
	readNothing(t, r, api.ErrShort)
}

func TestReaderEndOfBytesThatAreLeft(t *testing.T) {
	r := code.NewReader([]byte("\x05\x06"))
	if r.End() != api.ErrForm {
		t.Error("ahead of all")
	}
	if r.Num() != 5 || r.End() != api.ErrForm {
		t.Error("one is left")
	}
	if r.Error() != api.OK || r.Left() != 1 {
		t.Error("End isn't a read", r.Error(), r.Left())
	}
	if r.Num() != 6 || r.End() != api.OK || r.Error() != api.OK {
		t.Error("all is read", r.End(), r.Error())
	}
}

func TestReaderHasItsOwnBytes(t *testing.T) {
	p := []byte("\x05\x02ab\xac\x02")
	was := bytes.Clone(p)
	r := code.NewReader(p)
	clear(p)
	if r.Num() != 5 {
		t.Error("written over ahead of the first read")
	}
	clear(p)
	s := r.Text(2)
	clear(p)
	if s != "ab" || r.Num() != 300 || r.End() != api.OK {
		t.Error("written over", s, r.Error())
	}
	copy(p, was)
	r = code.NewReader(p)
	r.Num()
	r.Text(2)
	r.Num()
	r.Num()
	if !bytes.Equal(p, was) {
		t.Errorf("written into: %x", p)
	}
}

func TestReadersOfTheSameBytes(t *testing.T) {
	p := []byte("\x01\x02")
	a, b := code.NewReader(p), code.NewReader(p)
	if a.Num() != 1 || a.Num() != 2 || b.Num() != 1 || b.Left() != 1 || a.Left() != 0 {
		t.Error("they read for each other")
	}
}

func TestNilReader(t *testing.T) {
	var r *code.Reader
	if r.Num() != 0 || r.Int() != 0 || r.Left() != 0 {
		t.Error("a number")
	}
	if r.Text(0) != "" || r.Text(40) != "" || r.Text(-1) != "" {
		t.Error("a text")
	}
	if r.Error() != api.ErrNone || r.End() != api.ErrNone {
		t.Error(r.Error(), r.End())
	}
}
