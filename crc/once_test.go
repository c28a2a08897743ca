package crc

import "testing"

// withoutTable does something while the table, which was laid, holds noughts.
func withoutTable(do func()) {
	More(0, nil)
	was := halves
	defer func() { halves = was }()
	clear(halves[:])
	do()
}

// A table that was laid isn't laid again, whatever stands in it.
func TestTableIsLaidJustOnce(t *testing.T) {
	withoutTable(func() {
		Of([]byte("a"))
		More(7, []byte("a"))
		if halves != [len(halves)]uint32{} {
			t.Error("laid again")
		}
	})
}

func TestOfAndSumGoByTheRule(t *testing.T) {
	withoutTable(func() {
		if c := Of([]byte("123456789")); c != 0xe3069283 {
			t.Errorf("Of: %x", c)
		}
		if c := Sum([]byte("123456789")); c != 0xe3069283 {
			t.Errorf("Sum: %x", c)
		}
	})
}

func TestMoreReadsTheTable(t *testing.T) {
	withoutTable(func() {
		if c := More(0, []byte("123456789")); c == 0xe3069283 {
			t.Error("the table isn't read")
		}
	})
}
