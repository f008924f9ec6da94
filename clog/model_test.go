package clog_test

import (
	"math"
	"slices"
	"testing"

	"lapidary/api"
	"lapidary/clog"
)

// model is a log, and what the document says it must hold: the number of the next transaction, and the states of those that have begun.
type model struct {
	log    *clog.Log
	next   uint64
	states map[uint64]int
}

// logFrom makes a log from a first number on.
func logFrom(t *testing.T, first uint64) *model {
	t.Helper()
	l, e := clog.New(first)
	if l == nil || e != api.OK {
		t.Fatalf("New(%d) = %v, %d", first, l, e)
	}
	m := &model{l, first, map[uint64]int{}}
	m.check(t)
	return m
}

// running lists those whose state is Running, in increasing order.
func (m *model) running() []uint64 {
	var l []uint64
	for xid, state := range m.states {
		if state == clog.Running {
			l = append(l, xid)
		}
	}
	slices.Sort(l)
	return l
}

// checkState holds the state of one number against the model.
func (m *model) checkState(t *testing.T, xid uint64) {
	t.Helper()
	if got := m.log.State(xid); got != m.states[xid] {
		t.Fatalf("State(%d) = %d, want %d", xid, got, m.states[xid])
	}
}

// strange lists numbers that a log may be asked for, though most of them have not begun.
func (m *model) strange() []uint64 {
	l := []uint64{0, 1, 2, 255, 256, 1 << 16, 1 << 32, api.MaxXid - 1, api.MaxXid, api.MaxXid + 1, 1 << 63, math.MaxUint64 - 1, math.MaxUint64}
	for near := range uint64(4) {
		l = append(l, m.next+near, m.next-near, m.next+1<<8+near, m.next+1<<32+near, m.next-1<<8-near, m.next-1<<32-near)
	}
	for xid := range m.states {
		l = append(l, xid, xid-1, xid+1)
	}
	slices.Sort(l)
	return slices.Compact(l)
}

// check holds all that a log tells against the model.
func (m *model) check(t *testing.T) {
	t.Helper()
	m.checkLists(t)
	for _, xid := range m.strange() {
		m.checkState(t, xid)
	}
}

// checkLists holds what a log tells of its size against the model.
func (m *model) checkLists(t *testing.T) {
	t.Helper()
	if got := m.log.Next(); got != m.next {
		t.Fatalf("Next = %d, want %d", got, m.next)
	}
	if got, want := m.log.All(), m.running(); !slices.Equal(got, want) {
		t.Fatalf("All = %d, want %d", got, want)
	}
}

// begin starts a transaction, in the log and in the model.
func (m *model) begin(t *testing.T) uint64 {
	t.Helper()
	xid, e := m.log.Begin()
	if m.next > api.MaxXid {
		if xid != 0 || e != api.ErrFull {
			t.Fatalf("Begin behind the last number = %d, %d", xid, e)
		}
		return 0
	}
	if xid != m.next || e != api.OK {
		t.Fatalf("Begin = %d, %d, want %d", xid, e, m.next)
	}
	m.states[xid] = clog.Running
	m.next++
	return xid
}

// end ends a transaction, in the log and in the model.
func (m *model) end(t *testing.T, xid uint64, state int) {
	t.Helper()
	want := api.ErrNone
	if m.states[xid] == clog.Running {
		m.states[xid], want = state, api.OK
	}
	call := m.log.Commit
	if state == clog.Aborted {
		call = m.log.Abort
	}
	if got := call(xid); got != want {
		t.Fatalf("to set %d to %d = %d, want %d", xid, state, got, want)
	}
}
