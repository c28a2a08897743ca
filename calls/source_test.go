package calls

import (
	"math"
	"reflect"

	"carrier/api"
	"carrier/block"
	"carrier/entry"
	"carrier/rel"
	"carrier/source"
	"carrier/wal"
)

// sourced is a new source of two tables, of which one is traced, on a device of so many blocks.
func sourced(blocks int) *source.Source {
	s, _ := source.Open(block.New(blocks), 2, 1)
	return s
}

// worked is a source that has some of all: rows, ticks, consumers with batches open, events that come again, and the
// transactions 1, which is committed, and 2 and 3, which are open and have done something.
func worked(blocks int) *source.Source {
	s := sourced(blocks)
	s.Tick(0)
	for n := range 3 {
		s.Register(consumer(n))
		s.Begin()
	}
	for x := range int64(4) {
		for _, key := range []int64{0, 1, -1, 41, math.MaxInt64, math.MinInt64} {
			for table := range 2 {
				s.Run(x, rel.Stmt{Kind: byte(1 + (key+x)&3), Table: table, Row: api.Row{Key: key, Text: "t"}})
				s.Run(x, rel.Stmt{Kind: api.Insert, Table: table, Row: api.Row{Key: key, Text: "t"}})
			}
		}
		if x == 1 {
			s.Commit(x)
			s.Rotate()
		}
	}
	s.Tick(1)
	for n := range 3 {
		s.Next(consumer(n))
		for id := range int64(6) {
			s.Retry(consumer(n), id, odd(reflect.TypeFor[int64](), int(id)).Int())
		}
	}
	return s
}

// crowded is a source of which nobody more may be open, and which keeps as many ticks, and has as many consumers, as may be.
func crowded() *source.Source {
	s := worked(300)
	for range api.MaxTicks {
		s.Begin()
		s.Tick(math.MaxInt64)
	}
	s.Register(consumer(3))
	return s
}

// staged is a source of which two transactions' Commits wait in the log.
func staged() *source.Source {
	s := worked(300)
	s.Stage(2)
	s.Stage(3)
	return s
}

// lastSource is a source without a number left, and whose next ID is the last one.
func lastSource() *source.Source {
	d := block.New(300)
	l, _, _ := wal.Open(d)
	l.Append(entry.Encode(entry.Entry{Kind: entry.Tick, Tick: api.Tick{N: 1, Snap: api.Snapshot{Max: 1}}}))
	l.Append(entry.Encode(entry.Entry{Kind: entry.Commit, Tx: 41, Next: api.MaxTxid - 1, NextID: math.MaxInt64, Events: []entry.Placed{{Event: change(4)}}}))
	s, _ := source.Open(d, api.MaxTables, api.MaxTables)
	s.Begin()
	return s
}

// misled is a source of whose consumers' ticks there is none, and to whose objects within something was done from outside.
func misled() *source.Source {
	s := worked(300)
	s.Queue().Cursors().Unregister(consumer(0))
	s.Queue().Cursors().Register(consumer(0), math.MaxInt64)
	s.Queue().SetNextID(math.MinInt64)
	s.Queue().Spools().Add(change(5))
	s.Queue().Retries().Add(change(5), consumer(1), 0)
	return s
}

// reopened is a source that was opened again behind a crash.
func reopened() *source.Source {
	d := block.New(300)
	s, _ := source.Open(d, 2, 2)
	for _, now := range []int64{0, 1} {
		s.Tick(now)
		s.Register(consumer(0))
		x, _ := s.Begin()
		s.Run(x, rel.Stmt{Kind: api.Insert, Table: 1, Row: api.Row{Key: now, Text: "t"}})
		s.Commit(x)
		y, _ := s.Begin()
		s.Run(y, rel.Stmt{Kind: api.Insert, Table: 0, Row: api.Row{Key: now, Text: "t"}})
		s.Next(consumer(0))
	}
	d.Crash(nil, 0)
	s, _ = source.Open(d, 2, 2)
	return s
}
