package calls

import (
	"testing"

	"carrier/api"
	"carrier/entry"
	"carrier/rel"
	"carrier/system"
	"carrier/txn"
	"carrier/wal"
)

func TestErrorsAreNumbers(t *testing.T) {
	for want, e := range []api.Errno{api.OK, api.ErrArg, api.ErrForm, api.ErrShort, api.ErrNone, api.ErrDup, api.ErrConflict, api.ErrState, api.ErrFull, api.ErrWait} {
		if int(e) != want {
			t.Error(e, want)
		}
	}
}

func TestLimits(t *testing.T) {
	for _, c := range []struct{ got, want int }{
		{api.BlockSize, 32},
		{api.MaxBlocks, 4096},
		{api.MaxText, 40},
		{api.MaxTables, 4},
		{api.MaxOpen, 6},
		{api.MaxTxid, 1 << 20},
		{api.MaxTicks, 64},
		{api.MaxConsumers, 4},
		{api.MaxRetries, 16},
		{api.MaxDelay, 1000},
		{api.Spools, 3},
		{wal.MaxRecord, 4000},
	} {
		if c.got != c.want {
			t.Error(c.got, c.want)
		}
	}
	if api.Replica != "replica" {
		t.Error(api.Replica)
	}
}

func TestKinds(t *testing.T) {
	for i, l := range [][]int{
		{txn.None, txn.Open, txn.Committed, txn.Aborted},
		{0, api.Insert, api.Update, api.Delete, api.Truncate, rel.Get, rel.Scan},
		{0, entry.Commit, entry.Tick, entry.Register, entry.Unregister, entry.Open, entry.Finish, entry.Retry, entry.Maint, entry.Rotate, entry.Trim, entry.Applied},
		{0, system.Begin, system.Run, system.Commit, system.Abort, system.Tick, system.Register, system.Unregister, system.Next, system.Batch, system.Finish, system.Retry, system.Maint, system.Rotate, system.Trim, system.Vacuum, system.Clock, system.Fetch, system.Apply, system.Done, system.Crash, system.Die, system.Rows, system.Copy},
	} {
		for want, got := range l {
			if got != want {
				t.Error(i, got, want)
			}
		}
	}
}
