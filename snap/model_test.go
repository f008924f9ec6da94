package snap_test

import (
	"math"
	"slices"
	"testing"

	"lapidary/api"
	"lapidary/clog"
	"lapidary/snap"
)

// world is a log whose transactions count from 1 on, and the state of each of them as the tests have set it.
type world struct {
	log    *clog.Log
	states map[uint64]int
	next   uint64
}

// newWorld makes a log in which nothing has begun.
func newWorld(t testing.TB) *world {
	t.Helper()
	l, e := clog.New(1)
	if e != api.OK {
		t.Fatalf("New = %d", e)
	}
	return &world{l, map[uint64]int{}, 1}
}

// worldOf makes a log with a transaction for each letter: r is running, c is committed, a is aborted.
func worldOf(t testing.TB, letters string) *world {
	t.Helper()
	w := newWorld(t)
	w.grow(t, letters)
	return w
}

// grow begins a transaction for each letter, and then ends those that shall not be running.
func (w *world) grow(t testing.TB, letters string) {
	t.Helper()
	first := w.next
	for range letters {
		w.begin(t)
	}
	for i, c := range letters {
		w.turn(t, first+uint64(i), c)
	}
}

// turn ends a transaction as a letter tells.
func (w *world) turn(t testing.TB, xid uint64, letter rune) {
	t.Helper()
	switch letter {
	case 'c':
		w.end(t, xid, clog.Committed)
	case 'a':
		w.end(t, xid, clog.Aborted)
	}
}

// begin starts a transaction.
func (w *world) begin(t testing.TB) uint64 {
	t.Helper()
	xid, e := w.log.Begin()
	if xid != w.next || e != api.OK {
		t.Fatalf("Begin = %d, %d, want %d", xid, e, w.next)
	}
	w.states[xid] = clog.Running
	w.next++
	return xid
}

// end ends a running transaction.
func (w *world) end(t testing.TB, xid uint64, state int) {
	t.Helper()
	call := w.log.Commit
	if state == clog.Aborted {
		call = w.log.Abort
	}
	if e := call(xid); e != api.OK {
		t.Fatalf("to set %d to %d = %d", xid, state, e)
	}
	w.states[xid] = state
}

// those lists the transactions in a state, in increasing order.
func (w *world) those(state int) []uint64 {
	var l []uint64
	for xid := range w.next {
		if w.states[xid] == state {
			l = append(l, xid)
		}
	}
	return l
}

// numbers lists all that have begun, and some that have not.
func (w *world) numbers() []uint64 {
	l := []uint64{0}
	for xid := uint64(1); xid < w.next+3; xid++ {
		l = append(l, xid)
	}
	return append(l, api.MaxXid, api.MaxXid+1, math.MaxUint64)
}

// check tells whether the log is still as the tests have set it.
func (w *world) check(t testing.TB) {
	t.Helper()
	if got := w.log.Next(); got != w.next {
		t.Fatalf("Next = %d, want %d", got, w.next)
	}
	if got, want := w.log.All(), w.those(clog.Running); !slices.Equal(got, want) {
		t.Fatalf("All = %d, want %d", got, want)
	}
	for _, xid := range w.numbers() {
		if got := w.log.State(xid); got != w.states[xid] {
			t.Fatalf("State(%d) = %d, want %d", xid, got, w.states[xid])
		}
	}
}

// taken is a snapshot, and what the document says that it sees for ever: its own transaction, and what was committed when it was taken.
type taken struct {
	snap.Snapshot
	seen map[uint64]struct{}
}

// take makes a snapshot, and holds its parts against the model.
func (w *world) take(t testing.TB, own uint64) taken {
	t.Helper()
	s := taken{snap.Take(w.log, own), map[uint64]struct{}{own: {}}}
	for _, xid := range w.those(clog.Committed) {
		s.seen[xid] = struct{}{}
	}
	others := slices.DeleteFunc(w.those(clog.Running), func(xid uint64) bool { return xid == own })
	want := snap.Snapshot{Own: own, Xmin: w.next, Xmax: w.next, Running: others}
	if len(others) > 0 {
		want.Xmin = others[0]
	}
	if !same(s.Snapshot, want) {
		t.Fatalf("Take for %d = %v, want %v", own, s.Snapshot, want)
	}
	return s
}

// sees tells whether a snapshot must see a transaction.
func (s taken) sees(xid uint64) bool {
	_, ok := s.seen[xid]
	return ok
}

// visible tells whether a version must be visible to a snapshot.
func (s taken) visible(xmin, xmax uint64) bool {
	return s.sees(xmin) && (xmax == 0 || !s.sees(xmax))
}

// free is what Free must answer for a version.
func (w *world) free(s taken, xmin, xmax uint64) api.Errno {
	switch {
	case xmax != 0 && xmax != s.Own && w.states[xmax] != clog.Aborted:
		return api.ErrConflict
	case !s.visible(xmin, xmax):
		return api.ErrState
	}
	return api.OK
}

// dead tells whether Dead must be true for a version.
func (w *world) dead(xmin, xmax, horizon uint64) bool {
	return w.states[xmin] == clog.Aborted || w.states[xmax] == clog.Committed && xmax < horizon
}

// same tells whether two snapshots are.
func same(a, b snap.Snapshot) bool {
	return a.Own == b.Own && a.Xmin == b.Xmin && a.Xmax == b.Xmax && slices.Equal(a.Running, b.Running)
}

// version is one with these stamps; nothing else of it matters.
func version(xmin, xmax uint64) api.Tuple {
	return api.Tuple{Row: xmin*31 + xmax, Xmin: xmin, Xmax: xmax, Next: api.TID{Page: int(xmax % 7), Slot: -int(xmin % 5)}, Data: []byte{byte(xmin), byte(xmax)}}
}
