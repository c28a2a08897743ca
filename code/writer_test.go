package code_test

import (
	"bytes"
	"math"
	"strings"
	"testing"

	"carrier/code"
)

func num(n uint64) []byte {
	w := &code.Writer{}
	return w.Num(n).Bytes()
}

func integer(n int64) []byte {
	w := &code.Writer{}
	return w.Int(n).Bytes()
}

func text(s string) []byte {
	w := &code.Writer{}
	return w.Text(s).Bytes()
}

func TestWriterHasNothingAtFirst(t *testing.T) {
	w := &code.Writer{}
	if p := w.Bytes(); len(p) != 0 {
		t.Errorf("%x", p)
	}
	var value code.Writer
	if p := value.Num(5).Bytes(); string(p) != "\x05" {
		t.Errorf("%x", p)
	}
}

func TestWriterNum(t *testing.T) {
	for _, c := range []struct {
		n    uint64
		want string
	}{
		{0, "\x00"},
		{1, "\x01"},
		{127, "\x7f"},
		{128, "\x80\x01"},
		{255, "\xff\x01"},
		{256, "\x80\x02"},
		{300, "\xac\x02"},
		{16383, "\xff\x7f"},
		{16384, "\x80\x80\x01"},
		{1 << 63, "\x80\x80\x80\x80\x80\x80\x80\x80\x80\x01"},
		{1<<63 - 1, "\xff\xff\xff\xff\xff\xff\xff\xff\x7f"},
		{math.MaxUint64, "\xff\xff\xff\xff\xff\xff\xff\xff\xff\x01"},
	} {
		if got := num(c.n); string(got) != c.want {
			t.Errorf("Num(%d) is %x, not %x", c.n, got, c.want)
		}
	}
}

func TestWriterNumHasAsFewBytesAsThereMayBe(t *testing.T) {
	for digits := 1; digits < 10; digits++ {
		least := uint64(1) << (7 * digits)
		if below := num(least - 1); len(below) != digits {
			t.Errorf("%d: %x", least-1, below)
		}
		if p := num(least); len(p) != digits+1 {
			t.Errorf("%d: %x", least, p)
		}
	}
}

func TestWriterInt(t *testing.T) {
	for _, c := range []struct {
		n    int64
		want uint64
	}{
		{0, 0},
		{-1, 1},
		{1, 2},
		{-2, 3},
		{2, 4},
		{63, 126},
		{-64, 127},
		{64, 128},
		{math.MaxInt64, math.MaxUint64 - 1},
		{math.MinInt64, math.MaxUint64},
	} {
		if got := integer(c.n); !bytes.Equal(got, num(c.want)) {
			t.Errorf("Int(%d) is %x, not Num(%d)", c.n, got, c.want)
		}
	}
}

func TestWriterText(t *testing.T) {
	for _, s := range []string{"", "a", "ab", "\x00", "\xff\xfe", "äöü", strings.Repeat("x", 127), strings.Repeat("x", 128), strings.Repeat("y", 300)} {
		want := append(num(uint64(len(s))), s...)
		if got := text(s); !bytes.Equal(got, want) {
			t.Errorf("Text(%q) is %x, not %x", s, got, want)
		}
	}
}

func TestWriterLaysOneBehindTheOther(t *testing.T) {
	w := &code.Writer{}
	w.Num(300)
	w.Int(-1)
	w.Text("ab")
	w.Num(0)
	if p := w.Bytes(); string(p) != "\xac\x02\x01\x02ab\x00" {
		t.Errorf("%x", p)
	}
}

func TestWriterAnswersItself(t *testing.T) {
	w := &code.Writer{}
	if w.Num(1) != w || w.Int(1) != w || w.Int(-1) != w || w.Text("a") != w {
		t.Error("another writer")
	}
}

func TestBytesIsTheCallers(t *testing.T) {
	w := &code.Writer{}
	p := w.Num(1).Num(2).Num(3).Bytes()
	q := w.Bytes()
	clear(p)
	if string(q) != "\x01\x02\x03" || string(w.Bytes()) != "\x01\x02\x03" {
		t.Error("written over", q, w.Bytes())
	}
	longer := append(q, 9)
	w.Num(4)
	if longer[3] != 9 || string(w.Bytes()) != "\x01\x02\x03\x04" {
		t.Error("room behind is shared", longer, w.Bytes())
	}
	if string(q) != "\x01\x02\x03" {
		t.Error("the writer went on in it", q)
	}
}

func TestNilWriter(t *testing.T) {
	var w *code.Writer
	if w.Num(0) != nil || w.Num(math.MaxUint64) != nil {
		t.Error("Num")
	}
	if w.Int(0) != nil || w.Int(5) != nil || w.Int(-5) != nil || w.Int(math.MinInt64) != nil {
		t.Error("Int")
	}
	if w.Text("") != nil || w.Text("ab") != nil {
		t.Error("Text")
	}
	if len(w.Bytes()) != 0 {
		t.Error("Bytes")
	}
	if w.Num(1).Int(2).Text("c").Bytes() != nil {
		t.Error("one behind the other")
	}
}
