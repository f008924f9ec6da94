package snap_test

import (
	"math"
	"math/rand"
	"slices"
	"testing"

	"lapidary/api"
	"lapidary/clog"
	"lapidary/snap"
)

// P10.1: the example of the document.
func TestExample(t *testing.T) {
	w := worldOf(t, "rr")
	s := snap.Take(w.log, 2)
	if s.Xmin != 1 || s.Xmax != 3 {
		t.Fatalf("Take = %v", s)
	}
	w.end(t, 1, clog.Committed)
	if snap.Sees(w.log, s, 1) {
		t.Error("what was running is seen when it has committed")
	}
	if !snap.Sees(w.log, snap.Take(w.log, 2), 1) {
		t.Error("what had committed is not seen")
	}
}

// P10.1: the parts of a snapshot.
func TestTake(t *testing.T) {
	for _, c := range []struct {
		letters string
		own     uint64
		xmin    uint64
		xmax    uint64
		running []uint64
	}{
		{"", 0, 1, 1, nil},
		{"", 1, 1, 1, nil},
		{"", math.MaxUint64, 1, 1, nil},
		{"r", 1, 2, 2, nil},
		{"r", 0, 1, 2, []uint64{1}},
		{"r", 2, 1, 2, []uint64{1}},
		{"c", 1, 2, 2, nil},
		{"a", 1, 2, 2, nil},
		{"rr", 1, 2, 3, []uint64{2}},
		{"rr", 2, 1, 3, []uint64{1}},
		{"rrr", 2, 1, 4, []uint64{1, 3}},
		{"crc", 2, 4, 4, nil},
		{"crar", 2, 4, 5, []uint64{4}},
		{"crarr", 4, 2, 6, []uint64{2, 5}},
		{"crarr", 2, 4, 6, []uint64{4, 5}},
		{"crarr", 1, 2, 6, []uint64{2, 4, 5}},
		{"crarr", 3, 2, 6, []uint64{2, 4, 5}},
		{"crarr", 6, 2, 6, []uint64{2, 4, 5}},
		{"crarr", 7, 2, 6, []uint64{2, 4, 5}},
		{"crarr", 0, 2, 6, []uint64{2, 4, 5}},
		{"crarr", math.MaxUint64, 2, 6, []uint64{2, 4, 5}},
		{"cacac", 3, 6, 6, nil},
		{"cacacr", 6, 7, 7, nil},
	} {
		w := worldOf(t, c.letters)
		s := snap.Take(w.log, c.own)
		if want := (snap.Snapshot{Own: c.own, Xmin: c.xmin, Xmax: c.xmax, Running: c.running}); !same(s, want) {
			t.Errorf("%q: Take for %d = %v, want %v", c.letters, c.own, s, want)
		}
		w.check(t)
	}
}

// P10.1: a snapshot where the numbers end: its Xmax is a number that will never begin.
func TestTakeLast(t *testing.T) {
	l, _ := clog.New(api.MaxXid - 1)
	l.Begin()
	l.Begin()
	if s, want := snap.Take(l, api.MaxXid), (snap.Snapshot{Own: api.MaxXid, Xmin: api.MaxXid - 1, Xmax: api.MaxXid + 1, Running: []uint64{api.MaxXid - 1}}); !same(s, want) {
		t.Errorf("Take = %v, want %v", s, want)
	}
	l.Commit(api.MaxXid - 1)
	s := snap.Take(l, 0)
	l.Commit(api.MaxXid)
	late := snap.Take(l, 0)
	if !snap.Sees(l, s, api.MaxXid-1) || snap.Sees(l, s, api.MaxXid) || !snap.Sees(l, late, api.MaxXid) || snap.Sees(l, late, api.MaxXid+1) {
		t.Error("what is seen where the numbers end")
	}
	if h := snap.Horizon(l, nil); h != api.MaxXid+1 {
		t.Errorf("Horizon = %d", h)
	}
}

// P10.1: a log that starts anywhere: what is ahead of its first number has not begun.
func TestFirst(t *testing.T) {
	l, _ := clog.New(100)
	l.Begin()
	l.Commit(100)
	s := snap.Take(l, 50)
	if want := (snap.Snapshot{Own: 50, Xmin: 101, Xmax: 101}); !same(s, want) {
		t.Errorf("Take = %v, want %v", s, want)
	}
	for xid, want := range map[uint64]struct{ sees bool }{0: {false}, 1: {false}, 49: {false}, 50: {true}, 51: {false}, 99: {false}, 100: {true}, 101: {false}} {
		if got := snap.Sees(l, s, xid); got != want.sees {
			t.Errorf("Sees(%d) = %v", xid, got)
		}
	}
	if snap.Dead(l, version(99, 0), 1000) || snap.Dead(l, version(100, 99), 1000) || !snap.Dead(l, version(99, 100), 101) {
		t.Error("dead ahead of the first number")
	}
}

// P10.1: what a snapshot sees of each number, when it is taken and when all has ended.
func TestSees(t *testing.T) {
	for _, c := range []struct {
		own  uint64
		seen []uint64
	}{
		{4, []uint64{1, 4, 6}},
		{2, []uint64{1, 2, 6}},
		{1, []uint64{1, 6}},
		{3, []uint64{1, 3, 6}},
		{0, []uint64{0, 1, 6}},
		{7, []uint64{1, 6, 7}},
		{9, []uint64{1, 6, 9}},
		{math.MaxUint64, []uint64{1, 6, math.MaxUint64}},
	} {
		w := worldOf(t, "crarrc")
		s := snap.Take(w.log, c.own)
		hold := func(when string) {
			for _, xid := range w.numbers() {
				if got, want := snap.Sees(w.log, s, xid), slices.Contains(c.seen, xid); got != want {
					t.Errorf("own %d, %s: Sees(%d) = %v", c.own, when, xid, got)
				}
			}
			w.check(t)
		}
		hold("when it is taken")
		w.end(t, 2, clog.Committed)
		hold("when 2 has committed")
		w.end(t, 5, clog.Aborted)
		hold("when 5 has aborted")
		w.grow(t, "cra")
		hold("when 7 has committed behind it")
		w.end(t, 4, clog.Committed)
		w.end(t, 8, clog.Aborted)
		hold("when all have ended")
	}
}

// versions of a log with "crarrc", of which 2 commits and 5 aborts, and 7 commits and 8 runs, behind a snapshot for 4: what is visible, and what may be ended.
var versions = []struct {
	xmin, xmax uint64
	visible    bool
	free       api.Errno
}{
	{1, 0, true, api.OK},
	{1, 1, false, api.ErrConflict},
	{1, 2, true, api.ErrConflict},
	{1, 3, true, api.OK},
	{1, 4, false, api.ErrState},
	{1, 5, true, api.OK},
	{1, 6, false, api.ErrConflict},
	{1, 7, true, api.ErrConflict},
	{1, 8, true, api.ErrConflict},
	{1, 9, true, api.ErrConflict},
	{1, math.MaxUint64, true, api.ErrConflict},
	{2, 0, false, api.ErrState},
	{2, 3, false, api.ErrState},
	{2, 4, false, api.ErrState},
	{2, 6, false, api.ErrConflict},
	{2, 8, false, api.ErrConflict},
	{3, 0, false, api.ErrState},
	{3, 4, false, api.ErrState},
	{3, 1, false, api.ErrConflict},
	{4, 0, true, api.OK},
	{4, 4, false, api.ErrState},
	{4, 5, true, api.OK},
	{4, 6, false, api.ErrConflict},
	{4, 8, true, api.ErrConflict},
	{5, 0, false, api.ErrState},
	{5, 5, false, api.ErrState},
	{6, 0, true, api.OK},
	{6, 3, true, api.OK},
	{6, 2, true, api.ErrConflict},
	{7, 0, false, api.ErrState},
	{7, 9, false, api.ErrConflict},
	{8, 0, false, api.ErrState},
	{9, 0, false, api.ErrState},
	{9, 4, false, api.ErrState},
	{9, 9, false, api.ErrConflict},
	{0, 0, false, api.ErrState},
	{0, 1, false, api.ErrConflict},
	{math.MaxUint64, 0, false, api.ErrState},
}

// P10.1: a version is visible if its Xmin is seen and its Xmax is not; Free tells a conflict ahead of what is not visible.
func TestVersions(t *testing.T) {
	w := worldOf(t, "crarrc")
	s := snap.Take(w.log, 4)
	w.end(t, 2, clog.Committed)
	w.end(t, 5, clog.Aborted)
	w.grow(t, "cr")
	for _, c := range versions {
		v := version(c.xmin, c.xmax)
		if got := snap.Visible(w.log, s, v); got != c.visible {
			t.Errorf("Visible(%d, %d) = %v", c.xmin, c.xmax, got)
		}
		if got := snap.Free(w.log, s, v); got != c.free {
			t.Errorf("Free(%d, %d) = %d, want %d", c.xmin, c.xmax, got, c.free)
		}
	}
	w.check(t)
}

// P10.1: one whose own number is 0, has not begun, or has ended sees itself, and may end what it sees.
func TestOwn(t *testing.T) {
	for _, own := range []uint64{0, 1, 2, 3, 4, 5, 99, math.MaxUint64} {
		w := worldOf(t, "cra")
		s := snap.Take(w.log, own)
		if !snap.Sees(w.log, s, own) || !snap.Visible(w.log, s, version(own, 0)) {
			t.Errorf("%d does not see itself", own)
		}
		if e := snap.Free(w.log, s, version(own, 0)); e != api.OK {
			t.Errorf("Free(%d, 0) = %d", own, e)
		}
		if own == 0 {
			continue
		}
		if snap.Visible(w.log, s, version(1, own)) || snap.Visible(w.log, s, version(own, own)) {
			t.Errorf("%d sees what it has ended", own)
		}
		if e := snap.Free(w.log, s, version(1, own)); e != api.ErrState {
			t.Errorf("Free(1, %d) = %d", own, e)
		}
	}
}

// P10.1: dead is what was aborted, and what was ended by one that is committed and below the horizon.
func TestDead(t *testing.T) {
	w := worldOf(t, "crac")
	for _, c := range []struct {
		xmin, xmax, horizon uint64
		dead                bool
	}{
		{3, 0, 0, true},
		{3, 2, 0, true},
		{3, 3, 1, true},
		{3, 4, 4, true},
		{3, 99, 0, true},
		{1, 0, math.MaxUint64, false},
		{2, 0, math.MaxUint64, false},
		{1, 4, 0, false},
		{1, 4, 3, false},
		{1, 4, 4, false},
		{1, 4, 5, true},
		{1, 4, math.MaxUint64, true},
		{1, 1, 1, false},
		{1, 1, 2, true},
		{2, 4, 4, false},
		{2, 4, 5, true},
		{2, 2, math.MaxUint64, false},
		{1, 2, math.MaxUint64, false},
		{1, 3, math.MaxUint64, false},
		{1, 5, math.MaxUint64, false},
		{1, 99, math.MaxUint64, false},
		{1, math.MaxUint64, math.MaxUint64, false},
		{0, 0, math.MaxUint64, false},
		{0, 4, 5, true},
		{99, 0, math.MaxUint64, false},
		{99, 4, 4, false},
		{99, 4, 5, true},
		{math.MaxUint64, 4, 5, true},
	} {
		if got := snap.Dead(w.log, version(c.xmin, c.xmax), c.horizon); got != c.dead {
			t.Errorf("Dead(%d, %d) at %d = %v", c.xmin, c.xmax, c.horizon, got)
		}
	}
	w.check(t)
}

// P10.1: the horizon is the least Xmin, wherever it stands and whatever else the snapshots hold; without snapshots the next number.
func TestHorizon(t *testing.T) {
	w := worldOf(t, "rrcr")
	of := func(xmins ...uint64) []snap.Snapshot {
		var all []snap.Snapshot
		for i, xmin := range xmins {
			all = append(all, snap.Snapshot{Own: uint64(i) % 3, Xmin: xmin, Xmax: uint64(i * i % 5), Running: []uint64{uint64(i), 0}})
		}
		return all
	}
	for _, c := range []struct {
		all  []snap.Snapshot
		want uint64
	}{
		{nil, 5},
		{[]snap.Snapshot{}, 5},
		{of(1), 1},
		{of(5), 5},
		{of(0), 0},
		{of(math.MaxUint64), math.MaxUint64},
		{of(9, 9), 9},
		{of(3, 2, 4), 2},
		{of(2, 3, 4), 2},
		{of(4, 3, 2), 2},
		{of(math.MaxUint64, 0, 7), 0},
		{of(7, 8, 9, 10, 11, 12, 6), 6},
		{[]snap.Snapshot{snap.Take(w.log, 4), snap.Take(w.log, 1)}, 1},
		{[]snap.Snapshot{snap.Take(w.log, 1)}, 2},
		{[]snap.Snapshot{{}}, 0},
	} {
		if got := snap.Horizon(w.log, c.all); got != c.want {
			t.Errorf("Horizon(%v) = %d, want %d", c.all, got, c.want)
		}
	}
	w.check(t)
	if got := snap.Horizon(newWorld(t).log, nil); got != 1 {
		t.Errorf("Horizon of a log without any = %d", got)
	}
}

// later lists what may become of a log: each letter that is r stays, or turns to c or a; and one more may begin.
func later(letters string) []string {
	all := []string{""}
	for _, c := range letters {
		var longer []string
		for _, s := range all {
			longer = append(longer, s+string(c))
			if c == 'r' {
				longer = append(longer, s+"c", s+"a")
			}
		}
		all = longer
	}
	for _, s := range all {
		all = append(all, s+"r", s+"c", s+"a")
	}
	return all
}

// words lists the texts of n letters r, c, a.
func words(n int) []string {
	if n == 0 {
		return []string{""}
	}
	var all []string
	for _, s := range words(n - 1) {
		all = append(all, s+"r", s+"c", s+"a")
	}
	return all
}

// P10.1, P10.3: all that the calls answer, for each small log, whatever becomes of it behind each of its snapshots.
func TestSmall(t *testing.T) {
	for n := range 4 {
		for _, letters := range words(n) {
			for _, end := range later(letters) {
				w := worldOf(t, letters)
				var all []taken
				for own := range w.next + 2 {
					all = append(all, w.take(t, own))
				}
				for i := range letters {
					if end[i] != letters[i] {
						w.turn(t, uint64(i)+1, rune(end[i]))
					}
				}
				w.grow(t, end[n:])
				for _, s := range all {
					w.hold(t, s)
				}
			}
		}
	}
}

// hold holds what a snapshot answers for all numbers and versions against the model.
func (w *world) hold(t *testing.T, s taken) {
	t.Helper()
	for _, xmin := range w.numbers() {
		if got := snap.Sees(w.log, s.Snapshot, xmin); got != s.sees(xmin) {
			t.Fatalf("%v in %v: Sees(%d) = %v", s.Snapshot, w.states, xmin, got)
		}
		for _, xmax := range w.numbers() {
			v := version(xmin, xmax)
			if got := snap.Visible(w.log, s.Snapshot, v); got != s.visible(xmin, xmax) {
				t.Fatalf("%v in %v: Visible(%d, %d) = %v", s.Snapshot, w.states, xmin, xmax, got)
			}
			if got, want := snap.Free(w.log, s.Snapshot, v), w.free(s, xmin, xmax); got != want {
				t.Fatalf("%v in %v: Free(%d, %d) = %d, want %d", s.Snapshot, w.states, xmin, xmax, got, want)
			}
			if got := snap.Dead(w.log, v, s.Xmin); got != w.dead(xmin, xmax, s.Xmin) {
				t.Fatalf("in %v: Dead(%d, %d) at %d = %v", w.states, xmin, xmax, s.Xmin, got)
			}
		}
	}
}

// written makes a snapshot by hand: its parts needn't fit each other, and Running is in any order, some of it twice.
func written(r *rand.Rand) snap.Snapshot {
	number := func() uint64 {
		if r.Intn(12) == 0 {
			return r.Uint64()
		}
		return uint64(r.Intn(12))
	}
	s := snap.Snapshot{Own: number(), Xmin: number(), Xmax: number()}
	for range r.Intn(6) {
		s.Running = append(s.Running, number())
	}
	return s
}

// model is what the document says that a snapshot sees in a log as it is now.
func (w *world) model(s snap.Snapshot) taken {
	all := taken{s, map[uint64]struct{}{}}
	for _, xid := range w.those(clog.Committed) {
		if xid < s.Xmax {
			all.seen[xid] = struct{}{}
		}
	}
	for _, xid := range s.Running {
		delete(all.seen, xid)
	}
	all.seen[s.Own] = struct{}{}
	return all
}

// P1, P10.1: snapshots that were never taken answer by the same words: Xmin has no part in what they see, Running may be in any order and hold any number.
func TestWritten(t *testing.T) {
	w := worldOf(t, "ccrcacrca")
	for seed := range int64(3000) {
		s := written(rand.New(rand.NewSource(seed)))
		w.hold(t, w.model(s))
	}
	for _, s := range []snap.Snapshot{
		{},
		{Xmax: math.MaxUint64},
		{Own: math.MaxUint64, Xmin: math.MaxUint64, Xmax: math.MaxUint64},
		{Own: 3, Xmin: 9, Xmax: 4, Running: []uint64{8, 2, 1}},
		{Own: 2, Xmin: 1, Xmax: 10, Running: []uint64{2, 2, 4, 0, math.MaxUint64}},
		{Own: 1, Xmin: 1, Xmax: 1, Running: []uint64{1}},
	} {
		w.hold(t, w.model(s))
	}
	w.check(t)
}

// P1, P10.1: a log that is nil has no transactions, and its next number is 0.
func TestNil(t *testing.T) {
	for _, own := range []uint64{0, 1, 7, math.MaxUint64} {
		if s, want := snap.Take(nil, own), (snap.Snapshot{Own: own}); !same(s, want) {
			t.Errorf("Take(nil, %d) = %v", own, s)
		}
	}
	nobody := &world{nil, map[uint64]int{}, 0}
	for seed := range int64(300) {
		nobody.hold(t, nobody.model(written(rand.New(rand.NewSource(seed)))))
	}
	if h := snap.Horizon(nil, nil); h != 0 {
		t.Errorf("Horizon(nil, nil) = %d", h)
	}
	if h := snap.Horizon(nil, []snap.Snapshot{{Xmin: 8}, {Xmin: 6}, {Xmin: 7}}); h != 6 {
		t.Errorf("Horizon of a nil log = %d", h)
	}
}

// P1: the calls neither change what they are given, nor what lies behind it, nor keep it.
func TestArguments(t *testing.T) {
	w := worldOf(t, "crcrac")
	running := []uint64{9, 4, 2, 4, 7, 7}
	s := snap.Snapshot{Own: 2, Xmin: 3, Xmax: 6, Running: running[:3]}
	all := []snap.Snapshot{{Xmin: 9, Own: 1}, s, {Xmin: 5}, {Xmin: 1, Own: 8}}
	v := version(1, 3)
	v.Data = []byte{1, 2, 3, 4}[:2]
	for range 2 {
		for own := range uint64(9) {
			snap.Take(w.log, own)
			snap.Sees(w.log, s, own)
			snap.Visible(w.log, s, v)
			snap.Free(w.log, s, v)
			snap.Dead(w.log, v, own)
			snap.Horizon(w.log, all[:3])
		}
	}
	if !slices.Equal(running, []uint64{9, 4, 2, 4, 7, 7}) {
		t.Errorf("Running has become %d", running)
	}
	if !slices.EqualFunc(all, []snap.Snapshot{{Xmin: 9, Own: 1}, s, {Xmin: 5}, {Xmin: 1, Own: 8}}, same) {
		t.Errorf("the snapshots have become %v", all)
	}
	if !slices.Equal(v.Data[:4], []byte{1, 2, 3, 4}) {
		t.Errorf("Data has become %v", v.Data[:4])
	}
	w.check(t)
	running[0] = 1
	if snap.Sees(w.log, s, 1) || !snap.Sees(w.log, snap.Snapshot{Own: 2, Xmax: 6, Running: []uint64{9}}, 1) {
		t.Error("a Running of an earlier call is kept")
	}
}

// P1: a snapshot is the caller's: to overwrite it changes neither the log nor other snapshots, and nothing in the log changes it.
func TestResults(t *testing.T) {
	w := worldOf(t, "rcrarr")
	for own := range uint64(8) {
		kept := w.take(t, own)
		want := slices.Clone(kept.Running)
		s := w.take(t, own)
		l := s.Running[:cap(s.Running)]
		for i := range l {
			l[i] = 0xeeee
		}
		_ = append(w.take(t, own).Running, 1, 2, 3)
		w.check(t)
		w.grow(t, "rc")
		if !slices.Equal(kept.Running, want) {
			t.Errorf("own %d: Running has become %d, was %d", own, kept.Running, want)
		}
	}
}
