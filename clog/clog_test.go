package clog_test

import (
	"math"
	"math/rand"
	"slices"
	"testing"

	"lapidary/api"
	"lapidary/clog"
)

// firsts lists numbers that a log may start from.
func firsts() []uint64 {
	return []uint64{1, 2, 5, 255, 256, 1 << 32, api.MaxXid - 20, api.MaxXid - 2, api.MaxXid - 1, api.MaxXid}
}

// endings lists the two states in which a transaction ends.
func endings() []int { return []int{clog.Committed, clog.Aborted} }

// P9.1: the example of the document.
func TestExample(t *testing.T) {
	m := logFrom(t, 5)
	for _, want := range []uint64{5, 6} {
		if xid, e := m.log.Begin(); xid != want || e != api.OK {
			t.Fatalf("Begin = %d, %d, want %d", xid, e, want)
		}
	}
	if e := m.log.Commit(5); e != api.OK {
		t.Fatalf("Commit(5) = %d", e)
	}
	if l := m.log.All(); !slices.Equal(l, []uint64{6}) {
		t.Fatalf("All = %d", l)
	}
	if m.log.State(5) != clog.Committed || m.log.State(6) != clog.Running || m.log.Next() != 7 {
		t.Fatalf("5: %d, 6: %d, Next = %d", m.log.State(5), m.log.State(6), m.log.Next())
	}
}

// P9.1: the states are told by the document's numbers.
func TestConstants(t *testing.T) {
	if clog.None != 0 || clog.Running != 1 || clog.Committed != 2 || clog.Aborted != 3 {
		t.Fatal(clog.None, clog.Running, clog.Committed, clog.Aborted)
	}
}

// P9.1: a log starts from 1 to MaxXid, and has nothing begun.
func TestNew(t *testing.T) {
	for _, first := range firsts() {
		m := logFrom(t, first)
		if m.log.Next() != first || m.log.State(first) != clog.None || len(m.log.All()) != 0 {
			t.Errorf("New(%d): Next %d, state %d, running %d", first, m.log.Next(), m.log.State(first), m.log.All())
		}
		if c, a := m.log.Commit(first), m.log.Abort(first); c != api.ErrNone || a != api.ErrNone {
			t.Errorf("New(%d): the first is ended ahead: %d, %d", first, c, a)
		}
	}
	for _, first := range []uint64{0, api.MaxXid + 1, api.MaxXid + 2, 2 * api.MaxXid, 2*api.MaxXid + 1, 1 << 63, math.MaxUint64 - 1, math.MaxUint64} {
		if l, e := clog.New(first); l != nil || e != api.ErrArg {
			t.Errorf("New(%d) = %v, %d", first, l, e)
		}
	}
}

// P9.1: Begin counts from the first number on, and each one is running; those that end don't hold it up.
func TestBegin(t *testing.T) {
	for _, first := range firsts() {
		for _, ending := range []int{clog.Running, clog.Committed, clog.Aborted} {
			m := logFrom(t, first)
			for range 40 {
				xid := m.begin(t)
				if ending != clog.Running && xid > 0 {
					m.end(t, xid, ending)
				}
				m.check(t)
			}
		}
	}
}

// P9.1: behind MaxXid nothing begins, though all end; what had begun goes on.
func TestFull(t *testing.T) {
	m := logFrom(t, api.MaxXid-2)
	for range 3 {
		m.begin(t)
	}
	for range 3 {
		if xid, e := m.log.Begin(); xid != 0 || e != api.ErrFull {
			t.Fatalf("Begin = %d, %d", xid, e)
		}
		m.check(t)
	}
	if m.log.Next() != api.MaxXid+1 {
		t.Fatalf("Next = %d", m.log.Next())
	}
	m.end(t, api.MaxXid, clog.Committed)
	m.end(t, api.MaxXid-2, clog.Aborted)
	m.end(t, api.MaxXid+1, clog.Committed)
	m.end(t, api.MaxXid-1, clog.Committed)
	m.check(t)
	if xid, e := m.log.Begin(); xid != 0 || e != api.ErrFull || m.log.State(api.MaxXid+1) != clog.None {
		t.Fatalf("Begin when all have ended = %d, %d", xid, e)
	}
	m.check(t)
}

// P9.1: only one that is running ends, and it ends once.
func TestEnd(t *testing.T) {
	for _, first := range firsts() {
		for _, one := range endings() {
			for _, two := range endings() {
				m := logFrom(t, first)
				a := m.begin(t)
				b := m.begin(t)
				m.end(t, a, one)
				m.check(t)
				m.end(t, a, two)
				m.check(t)
				m.end(t, b, two)
				m.end(t, b, one)
				m.check(t)
			}
		}
	}
}

// P9.1: what has not begun doesn't end, whatever its number is, and will begin as if nobody had tried.
func TestEndStrange(t *testing.T) {
	for _, first := range firsts() {
		for _, ending := range endings() {
			m := logFrom(t, first)
			for range 3 {
				for _, xid := range m.strange() {
					if m.states[xid] != clog.Running {
						m.end(t, xid, ending)
					}
				}
				m.check(t)
				m.begin(t)
			}
			m.check(t)
		}
	}
}

// permutations lists the orders of the numbers below n.
func permutations(n int) [][]int {
	if n == 0 {
		return [][]int{nil}
	}
	var all [][]int
	for _, l := range permutations(n - 1) {
		for at := range n {
			all = append(all, slices.Insert(slices.Clone(l), at, n-1))
		}
	}
	return all
}

// P9.1: All lists those that are running in increasing order, in whichever order the others have ended.
func TestAll(t *testing.T) {
	const n = 5
	for _, order := range permutations(n) {
		for ended := range 1 << n {
			m := logFrom(t, 7)
			for range n {
				m.begin(t)
			}
			for _, i := range order {
				state := clog.Committed
				if ended>>i&1 == 1 {
					state = clog.Aborted
				}
				m.end(t, 7+uint64(i), state)
				m.checkLists(t)
			}
			m.begin(t)
			m.check(t)
		}
	}
}

// P9.1: many that run at a time, and end from the front, from the back, and by turns.
func TestMany(t *testing.T) {
	const n = 1200
	ways := map[string]func(i int) int{
		"front": func(i int) int { return i },
		"back":  func(i int) int { return n - 1 - i },
		"far":   func(i int) int { return i * 7 % n },
		"apart": func(i int) int { return i * 601 % n },
	}
	for name, way := range ways {
		m := logFrom(t, 1000)
		for range n {
			m.begin(t)
		}
		m.check(t)
		for i := range n {
			m.end(t, 1000+uint64(way(i)), 2+i%2)
			if i%50 == 0 {
				m.checkLists(t)
			}
		}
		m.check(t)
		if l := m.log.All(); len(l) != 0 {
			t.Errorf("%s: %d are running still", name, l)
		}
	}
}

// P9.1: long scripts of all calls answer what the model says; few, some or many are running at a time.
func TestScripts(t *testing.T) {
	for seed := range int64(60) {
		r := rand.New(rand.NewSource(seed))
		m := logFrom(t, firsts()[int(seed)%len(firsts())])
		share := 2 + int(seed)%7
		for step := range 400 {
			if r.Intn(share) == 0 {
				m.begin(t)
			} else {
				m.end(t, m.pick(r), 2+r.Intn(2))
			}
			m.checkLists(t)
			m.checkState(t, m.pick(r))
			if step%40 == 0 {
				m.check(t)
			}
		}
		m.check(t)
	}
}

// pick is a number that is running, or near the next one, or anything.
func (m *model) pick(r *rand.Rand) uint64 {
	l := m.running()
	switch n := r.Intn(8); {
	case n < 4 && len(l) > 0:
		return l[r.Intn(len(l))]
	case n < 7:
		return m.next + 2 - uint64(r.Intn(len(m.states)+5))
	}
	return r.Uint64()
}

// P2: a log hangs on its own calls alone, and asking it changes nothing.
func TestTwoLogs(t *testing.T) {
	a, b := logFrom(t, 3), logFrom(t, 4)
	for range 5 {
		a.begin(t)
		b.check(t)
	}
	a.end(t, 4, clog.Committed)
	b.begin(t)
	b.begin(t)
	b.end(t, 4, clog.Aborted)
	a.end(t, 5, clog.Aborted)
	for range 3 {
		a.check(t)
		b.check(t)
	}
}

// P1, P9.1: what a log answered is the caller's: to overwrite it, and what lies behind it, changes nothing.
func TestMemory(t *testing.T) {
	m := logFrom(t, 10)
	var kept [][]uint64
	var want [][]uint64
	for i := range 20 {
		m.begin(t)
		kept = append(kept, m.log.All())
		want = append(want, m.running())
		other := m.log.All()
		for j := range other[:cap(other)] {
			other[:cap(other)][j] = 0xeeee
		}
		_ = append(m.log.All(), 1, 2, 3)
		if i%3 == 1 {
			m.end(t, 10+uint64(i)/2, clog.Committed)
		}
		m.check(t)
	}
	for i := range kept {
		if !slices.Equal(kept[i], want[i]) {
			t.Errorf("what All answered has become %d, was %d", kept[i], want[i])
		}
	}
}

// P1, P9.1: a log that is nil answers ErrNone, None, 0, nothing.
func TestNil(t *testing.T) {
	var l *clog.Log
	for range 2 {
		if xid, e := l.Begin(); xid != 0 || e != api.ErrNone {
			t.Errorf("Begin = %d, %d", xid, e)
		}
		for _, xid := range []uint64{0, 1, api.MaxXid, api.MaxXid + 1, math.MaxUint64} {
			if c, a, s := l.Commit(xid), l.Abort(xid), l.State(xid); c != api.ErrNone || a != api.ErrNone || s != clog.None {
				t.Errorf("%d: Commit = %d, Abort = %d, State = %d", xid, c, a, s)
			}
		}
		if n, all := l.Next(), l.All(); n != 0 || len(all) != 0 {
			t.Errorf("Next = %d, All = %d", n, all)
		}
	}
}
