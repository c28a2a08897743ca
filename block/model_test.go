package block_test

import (
	"bytes"
	"testing"

	"carrier/api"
	"carrier/block"
)

// model is a device as the promises word it: what is safe, and all that waits.
type model struct {
	safe [][]byte
	wait []put
}

func (m *model) now(i int) []byte {
	p := bytes.Clone(m.safe[i])
	for _, w := range m.wait {
		if w.i == i {
			copy(p, w.p)
		}
	}
	return p
}

func (m *model) crash(lost []bool, torn int) {
	for i, w := range m.wait {
		n := len(w.p)
		if i+1 == len(m.wait) && torn < n {
			n = torn
		}
		if i < len(lost) && lost[i] || n < 0 {
			n = 0
		}
		copy(m.safe[w.i], w.p[:n])
	}
	m.wait = nil
}

func (m *model) sync() {
	m.crash(nil, untorn)
}

// steps reads from bytes what is done to a device, and to its model: so many as there are.
func steps(t *testing.T, p []byte) {
	next := func() int {
		if len(p) == 0 {
			return 0
		}
		b := p[0]
		p = p[1:]
		return int(b)
	}
	n := next() % 5
	d, m := block.New(n), &model{}
	for range n {
		m.safe = append(m.safe, make([]byte, api.BlockSize))
	}
	for len(p) > 0 {
		switch kind := next() % 8; kind {
		case 0:
			d.Sync()
			m.sync()
		case 1:
			lost := make([]bool, next()%8)
			for i := range lost {
				lost[i] = next()%2 == 1
			}
			torn := next()%40 - 4
			d.Crash(lost, torn)
			m.crash(lost, torn)
		default:
			i := next()%(n+2) - 1
			q := bytes.Repeat([]byte{byte(next())}, next()%35)
			want := api.OK
			if i < 0 || i >= n || len(q) > api.BlockSize {
				want = api.ErrArg
			} else {
				m.wait = append(m.wait, put{i, string(q)})
			}
			if e := d.Write(i, q); e != want {
				t.Fatalf("Write(%d, %d bytes) of %d blocks: %d", i, len(q), n, e)
			}
		}
		alike(t, d, m)
	}
	d.Crash(nil, 1)
	m.crash(nil, 1)
	alike(t, d, m)
}

func alike(t *testing.T, d *block.Device, m *model) {
	t.Helper()
	if d.Size() != len(m.safe) || d.Waiting() != len(m.wait) {
		t.Fatal(d.Size(), len(m.safe), d.Waiting(), len(m.wait))
	}
	for i := range m.safe {
		if p, e := d.Read(i); e != api.OK || !bytes.Equal(p, m.now(i)) {
			t.Fatalf("block %d: %q, not %q (%d)", i, p, m.now(i), e)
		}
	}
}

// mixed is n bytes of all kinds.
func mixed(seed uint32, n int) []byte {
	p := make([]byte, n)
	x := seed
	for i := range p {
		x = x*1664525 + 1013904223
		p[i] = byte(x >> 24)
	}
	return p
}

func TestManySteps(t *testing.T) {
	for seed := range uint32(300) {
		steps(t, mixed(seed, 400))
	}
}

func FuzzSteps(f *testing.F) {
	f.Add(mixed(1, 50))
	f.Add([]byte("\x01\x02\x01a\x03\x02\x01b\x02\x01\x02\x00\x01\x05"))
	f.Fuzz(steps)
}

// Reads and syncs must not go through all that ever waited.
func TestManyWritesWait(t *testing.T) {
	const n = 100000
	d := block.New(api.MaxBlocks)
	for i := range n {
		write(t, d, i%api.MaxBlocks, "ab")
		if _, e := d.Read(i % api.MaxBlocks); e != api.OK {
			t.Fatal(e)
		}
	}
	waits(t, d, n)
	d.Sync()
	for i := range n {
		write(t, d, i%api.MaxBlocks, "c")
		d.Sync()
	}
	waits(t, d, 0)
	want := make([]string, api.MaxBlocks)
	for i := range want {
		want[i] = "cb"
	}
	safe(t, d, want...)
}
