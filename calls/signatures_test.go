// Package calls has only tests: of what holds for the calls of all layers together.
package calls

// The calls that the chapters list, with their signatures: this file compiles just if each of them is there.

import (
	"carrier/api"
	"carrier/batch"
	"carrier/block"
	"carrier/code"
	"carrier/crc"
	"carrier/cursor"
	"carrier/desk"
	"carrier/entry"
	"carrier/event"
	"carrier/heap"
	"carrier/judge"
	"carrier/queue"
	"carrier/rel"
	"carrier/retry"
	"carrier/snap"
	"carrier/source"
	"carrier/spool"
	"carrier/system"
	"carrier/target"
	"carrier/tick"
	"carrier/txn"
	"carrier/wal"
)

// Layer crc.
var (
	_ func(p []byte) uint32           = crc.Of
	_ func(c uint32, p []byte) uint32 = crc.More
	_ func() uint64                   = crc.Calls
)

// Layer code.
var (
	_ func(p []byte) *code.Reader = code.NewReader
	_ interface {
		Num(n uint64) *code.Writer
		Int(n int64) *code.Writer
		Text(s string) *code.Writer
		Bytes() []byte
	} = (*code.Writer)(nil)
	_ interface {
		Num() uint64
		Int() int64
		Text(most int) string
		Left() int
		Error() api.Errno
		End() api.Errno
	} = (*code.Reader)(nil)
)

// Layer block.
var (
	_ func(n int) *block.Device = block.New
	_ interface {
		Size() int
		Write(i int, p []byte) api.Errno
		Read(i int) ([]byte, api.Errno)
		Sync()
		Waiting() int
		Crash(lost []bool, torn int)
	} = (*block.Device)(nil)
)

// Layer wal.
var (
	_ func(p []byte) []byte                                 = wal.Frame
	_ func(d *block.Device) (*wal.Log, [][]byte, api.Errno) = wal.Open
	_ interface {
		Append(p []byte) api.Errno
		Sync()
		Size() int
		Room() int
	} = (*wal.Log)(nil)
)

// Layer snap.
var (
	_ func(s api.Snapshot) bool          = snap.Right
	_ func(s api.Snapshot, x int64) bool = snap.Sees
	_ func(s api.Snapshot) int64         = snap.Least
	_ func(a, b api.Snapshot) bool       = snap.Covers
	_ func(a, b api.Snapshot) bool       = snap.Same
)

// Layer txn.
var (
	_ func() *txn.Manager = txn.New
	_ interface {
		Begin() (int64, api.Errno)
		Commit(x int64) api.Errno
		Abort(x int64) api.Errno
		State(x int64) byte
		Now() api.Snapshot
		Next() int64
		Load(next int64, committed []int64) api.Errno
	} = (*txn.Manager)(nil)
)

// Layer heap.
var (
	_ func(m *txn.Manager) *heap.Heap = heap.New
	_ interface {
		Get(v heap.View, key int64) (api.Row, bool)
		Scan(v heap.View) []api.Row
		Insert(v heap.View, r api.Row) api.Errno
		Update(v heap.View, r api.Row) api.Errno
		Delete(v heap.View, key int64) api.Errno
		Truncate(v heap.View) ([]api.Row, api.Errno)
		Redo(x int64, ops []heap.Op) api.Errno
		Vacuum(s api.Snapshot) int
		Len() int
	} = (*heap.Heap)(nil)
)

// Layer rel.
var (
	_ func(m *txn.Manager, tables int) *rel.Rel  = rel.New
	_ func(s rel.Stmt, rows []api.Row) []heap.Op = rel.Ops
	_ interface {
		Tables() int
		Run(v heap.View, s rel.Stmt) ([]api.Row, api.Errno)
		Heap(t int) *heap.Heap
		Vacuum(s api.Snapshot) int
	} = (*rel.Rel)(nil)
)

// Layer event.
var (
	_ func(e api.Event) bool                = event.Right
	_ func(e api.Event) []byte              = event.Encode
	_ func(p []byte) (api.Event, api.Errno) = event.Decode
	_ func(e api.Event, owner string) bool  = event.Due
)

// Layer spool.
var (
	_ func() *spool.Spools = spool.New
	_ interface {
		Add(e api.Event)
		AddTo(i int, e api.Event) api.Errno
		Cur() int
		List(i int) []api.Event
		All() []api.Event
		Next() []api.Event
		Rotate(free bool) (byte, api.Errno)
		Forget(x int64) int
		Len() int
	} = (*spool.Spools)(nil)
)

// Layer tick.
var (
	_ func() *tick.Ticks = tick.New
	_ interface {
		Add(s api.Snapshot, at int64) (api.Tick, api.Errno)
		Get(n int64) (api.Tick, bool)
		Last() int64
		After(n int64) (api.Tick, bool)
		Trim(below int64) int
		Put(x api.Tick) api.Errno
		Len() int
	} = (*tick.Ticks)(nil)
)

// Layer batch.
var (
	_ func(l []api.Event, m *txn.Manager, from, to api.Snapshot, owner string) []api.Event = batch.Of
	_ func(e api.Event, m *txn.Manager, s []api.Snapshot) bool                             = batch.Needs
	_ func(l []api.Event, m *txn.Manager, s []api.Snapshot) bool                           = batch.Free
)

// Layer cursor.
var (
	_ func() *cursor.Cursors = cursor.New
	_ interface {
		Register(name string, at int64) api.Errno
		Unregister(name string) api.Errno
		Get(name string) (cursor.Cursor, bool)
		Open(name string, next int64) api.Errno
		Finish(name string) (int64, api.Errno)
		All() []cursor.Cursor
		Least() (int64, bool)
	} = (*cursor.Cursors)(nil)
)

// Layer retry.
var (
	_ func() *retry.Retries = retry.New
	_ interface {
		Add(e api.Event, owner string, at int64) api.Errno
		Due(now int64) []api.Event
		Take(now int64) []api.Event
		Drop(owner string) int
		All() []retry.Item
	} = (*retry.Retries)(nil)
)

// Layer queue.
var (
	_ func(m *txn.Manager) *queue.Queue = queue.New
	_ interface {
		Write(x int64, table int, kind byte, r api.Row) api.Event
		Forget(x int64) int
		Tick(now int64) (api.Tick, api.Errno)
		Register(name string) api.Errno
		Unregister(name string) api.Errno
		Next(name string) (api.Tick, api.Errno)
		Batch(name string) ([]api.Event, api.Errno)
		Finish(name string) (int64, api.Errno)
		Retry(name string, id, at int64) api.Errno
		Maint(x, now int64) []api.Event
		Free() bool
		Rotate() (byte, api.Errno)
		Trim() int
		NextID() int64
		SetNextID(id int64)
		Spools() *spool.Spools
		Ticks() *tick.Ticks
		Cursors() *cursor.Cursors
		Retries() *retry.Retries
	} = (*queue.Queue)(nil)
)

// Layer entry.
var (
	_ func(e entry.Entry) []byte              = entry.Encode
	_ func(p []byte) (entry.Entry, api.Errno) = entry.Decode
	_ func(a, b entry.Entry) bool             = entry.Same
)

// Layer source.
var (
	_ func(d *block.Device, tables, traced int) (*source.Source, api.Errno) = source.Open
	_ interface {
		Begin() (int64, api.Errno)
		Run(x int64, st rel.Stmt) ([]api.Row, api.Errno)
		Commit(x int64) api.Errno
		Stage(x int64) api.Errno
		Abort(x int64) api.Errno
		Tick(now int64) (api.Tick, api.Errno)
		Register(name string) api.Errno
		Unregister(name string) api.Errno
		Next(name string) (api.Tick, api.Errno)
		Batch(name string) ([]api.Event, api.Errno)
		Finish(name string) (int64, api.Errno)
		Retry(name string, id, at int64) api.Errno
		Maint(now int64) (int, api.Errno)
		Rotate() (byte, api.Errno)
		Trim() (int, api.Errno)
		Vacuum() int
		Rows(t int, at api.Snapshot) []api.Row
		Queue() *queue.Queue
		Manager() *txn.Manager
		Size() int
	} = (*source.Source)(nil)
)

// Layer target.
var (
	_ func(d *block.Device, tables int) (*target.Target, api.Errno) = target.Open
	_ func(rows []api.Row, l []api.Event, table int) []api.Row      = target.Replay
	_ interface {
		Apply(n int64, l []api.Event) (bool, api.Errno)
		Rows(table int) []api.Row
		Mark() int64
		Size() int
	} = (*target.Target)(nil)
)

// Layer system.
var (
	_ func(tables, traced, blocks int) *system.System = system.New
	_ func(a, b system.Answer) bool                   = system.Same
	_ interface {
		Do(m system.Move) system.Answer
		Now() int64
		Source() *source.Source
		Target() *target.Target
		Tx(who int) int64
		Counts() (uint64, uint64)
	} = (*system.System)(nil)
)

// Layer judge.
var (
	_ func(l []api.Event) bool                                          = judge.Once
	_ func(s *system.System, name string) ([]api.Event, int, api.Errno) = judge.Feed
	_ func(s *system.System) (int, api.Errno)                           = judge.Follow
	_ func(s *system.System) int                                        = judge.Round
	_ func(s *system.System, rounds int) int                            = judge.Drain
	_ func(s *system.System) bool                                       = judge.Sound
	_ func(s *system.System, traced int, n int64) bool                  = judge.Copied
)

// Layer desk.
var (
	_ func() *desk.Desk          = desk.New
	_ func(text string) []string = desk.Run
	_ interface {
		Line(line string) string
	} = (*desk.Desk)(nil)
)
