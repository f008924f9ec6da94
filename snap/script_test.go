package snap_test

import (
	"math/rand"
	"slices"
	"testing"

	"lapidary/api"
	"lapidary/clog"
	"lapidary/snap"
)

// script is a log whose transactions come and go, and the snapshots that exist.
type script struct {
	*world
	r     *rand.Rand
	snaps []taken
}

// any is one of a list.
func (s *script) any(l []uint64) uint64 { return l[s.r.Intn(len(l))] }

// step does one thing: a transaction begins or ends, or a snapshot is taken or forgotten; with an aborted transaction go its snapshots.
func (s *script) step(t *testing.T, most int) {
	t.Helper()
	running := s.those(clog.Running)
	if len(running) == 0 || len(running) < most && s.r.Intn(3) == 0 {
		own := s.begin(t)
		if s.r.Intn(3) > 0 {
			s.snaps = append(s.snaps, s.take(t, own))
		}
		return
	}
	switch s.r.Intn(6) {
	case 0, 1:
		s.snaps = append(s.snaps, s.take(t, s.any(running)))
	case 2, 3:
		s.end(t, s.any(running), clog.Committed)
	case 4:
		own := s.any(running)
		s.end(t, own, clog.Aborted)
		s.snaps = slices.DeleteFunc(s.snaps, func(one taken) bool { return one.Own == own })
	case 5:
		if len(s.snaps) > 0 {
			at := s.r.Intn(len(s.snaps))
			s.snaps = slices.Delete(s.snaps, at, at+1)
		}
	}
}

// horizon is that of the snapshots that exist.
func (s *script) horizon(t *testing.T) uint64 {
	t.Helper()
	var all []snap.Snapshot
	want := s.next
	for i, one := range s.snaps {
		all = append(all, one.Snapshot)
		if i == 0 || one.Xmin < want {
			want = one.Xmin
		}
	}
	got := snap.Horizon(s.log, all)
	if got != want {
		t.Fatalf("Horizon of %v = %d, want %d", all, got, want)
	}
	return got
}

// bury adds to the dead what has died; each of the dead must be visible to none.
func (s *script) bury(t *testing.T, dead map[[2]uint64]struct{}) {
	t.Helper()
	horizon := s.horizon(t)
	for xmin := range s.next + 2 {
		for xmax := range s.next + 2 {
			v := version(xmin, xmax)
			got := snap.Dead(s.log, v, horizon)
			if got != s.dead(xmin, xmax, horizon) {
				t.Fatalf("in %v: Dead(%d, %d) at %d = %v", s.states, xmin, xmax, horizon, got)
			}
			if got {
				dead[[2]uint64{xmin, xmax}] = struct{}{}
			}
		}
	}
	for stamps := range dead {
		for _, one := range s.snaps {
			if snap.Visible(s.log, one.Snapshot, version(stamps[0], stamps[1])) {
				t.Fatalf("%v in %v sees %d, which is dead", one.Snapshot, s.states, stamps)
			}
		}
	}
}

// P10.2: what is dead once is visible to no snapshot that exists, nor to any that is taken later, though the horizon falls again.
func TestDeadIsNeverSeen(t *testing.T) {
	for seed := range int64(25) {
		s := script{newWorld(t), rand.New(rand.NewSource(seed)), nil}
		dead := map[[2]uint64]struct{}{}
		for s.next < 22 {
			s.step(t, 1+int(seed)%6)
			s.bury(t, dead)
		}
		for _, xid := range s.those(clog.Running) {
			s.end(t, xid, clog.Committed)
		}
		s.snaps = nil
		s.bury(t, dead)
		s.snaps = append(s.snaps, s.take(t, s.begin(t)))
		s.bury(t, dead)
		for _, xid := range s.those(clog.Committed) {
			if _, ok := dead[[2]uint64{xid, xid}]; !ok {
				t.Fatalf("what %d has ended is not dead, though all is over", xid)
			}
		}
	}
}

// P10.2: a version that is not dead may be seen: each is visible to a snapshot that exists, or may be to one that is taken later.
func TestNotDeadMayBeSeen(t *testing.T) {
	w := worldOf(t, "crcar")
	old := w.take(t, 5)
	w.end(t, 2, clog.Committed)
	w.grow(t, "cr")
	late := w.take(t, 7)
	horizon := snap.Horizon(w.log, []snap.Snapshot{old.Snapshot, late.Snapshot})
	for _, stamps := range [][2]uint64{{1, 0}, {2, 0}, {1, 2}, {1, 4}, {1, 5}, {3, 6}, {5, 0}, {7, 0}, {1, 7}} {
		v := version(stamps[0], stamps[1])
		if snap.Dead(w.log, v, horizon) {
			t.Errorf("%d is dead at %d", stamps, horizon)
		}
		if !snap.Visible(w.log, old.Snapshot, v) && !snap.Visible(w.log, late.Snapshot, v) {
			t.Errorf("%d is not visible to any", stamps)
		}
	}
	for _, stamps := range [][2]uint64{{1, 1}, {4, 0}, {4, 7}} {
		if !snap.Dead(w.log, version(stamps[0], stamps[1]), horizon) {
			t.Errorf("%d is not dead at %d", stamps, horizon)
		}
	}
}

// P3, P10.3: what a snapshot sees is what was committed when it was taken, and itself, at each later time, though its own transaction ends.
func TestStable(t *testing.T) {
	for seed := range int64(25) {
		s := script{newWorld(t), rand.New(rand.NewSource(seed)), nil}
		var all []taken
		for s.next < 30 {
			s.step(t, 1+int(seed)%6)
			all = append(all, s.snaps...)
			s.snaps = nil
			if len(all) < 60 && s.r.Intn(4) == 0 {
				all = append(all, s.take(t, uint64(s.r.Intn(40))))
			}
			for _, one := range all {
				s.holdSeen(t, one)
			}
		}
	}
}

// holdSeen holds what a snapshot sees, and a few of the versions, against the model.
func (s *script) holdSeen(t *testing.T, one taken) {
	t.Helper()
	for _, xid := range s.numbers() {
		if got := snap.Sees(s.log, one.Snapshot, xid); got != one.sees(xid) {
			t.Fatalf("%v in %v: Sees(%d) = %v", one.Snapshot, s.states, xid, got)
		}
	}
	for range 5 {
		xmin, xmax := uint64(s.r.Intn(32)), uint64(s.r.Intn(32))
		if got := snap.Visible(s.log, one.Snapshot, version(xmin, xmax)); got != one.visible(xmin, xmax) {
			t.Fatalf("%v in %v: Visible(%d, %d) = %v", one.Snapshot, s.states, xmin, xmax, got)
		}
	}
}

// P4: of two that run at a time, and want to end the same version, the first one wins, whatever becomes of it; what it has aborted is free again.
func TestFirstWins(t *testing.T) {
	w := worldOf(t, "crr")
	two, three := snap.Take(w.log, 2), snap.Take(w.log, 3)
	v := version(1, 0)
	if a, b := snap.Free(w.log, two, v), snap.Free(w.log, three, v); a != api.OK || b != api.OK {
		t.Fatalf("nobody has ended it: %d, %d", a, b)
	}
	v.Xmax = 2
	if e := snap.Free(w.log, three, v); e != api.ErrConflict {
		t.Errorf("the first one is running: %d", e)
	}
	w.end(t, 2, clog.Committed)
	if e := snap.Free(w.log, three, v); e != api.ErrConflict {
		t.Errorf("the first one has committed: %d", e)
	}
	w.end(t, 3, clog.Aborted)
	four := w.begin(t)
	if e := snap.Free(w.log, snap.Take(w.log, four), version(1, 3)); e != api.OK {
		t.Errorf("the first one has aborted: %d", e)
	}
}
