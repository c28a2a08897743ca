package crc

import "testing"

// A table that was laid isn't laid again, whatever stands in it.
func TestTableIsLaidJustOnce(t *testing.T) {
	Of(nil)
	was := halves
	defer func() { halves = was }()
	clear(halves[:])
	Of([]byte("a"))
	More(7, []byte("a"))
	if halves != [len(halves)]uint32{} {
		t.Error("laid again")
	}
}
