package book_test

import (
	"math"
	"math/rand"
	"slices"
	"testing"

	"lapidary/api"
	"lapidary/book"
	"lapidary/clog"
	"lapidary/snap"
)

// script is a world in which transactions make and drop entries, in any order.
type script struct {
	*world
	*rand.Rand
	open  []snap.Snapshot // of those that run
	words []string
}

// word is one of the few names of the script.
func (s *script) word() string { return s.words[s.Intn(len(s.words))] }

// known is mostly the name of an entry.
func (s *script) known() string {
	if len(s.all) == 0 || s.Intn(4) == 0 {
		return s.word()
	}
	return s.all[s.Intn(len(s.all))].name
}

// some makes columns, now and then such as no table may have.
func (s *script) some() []api.Column {
	var l []api.Column
	for _, name := range []string{"a", "b", "c", "d"}[:1+s.Intn(4)] {
		l = append(l, api.Column{Name: name, Kind: api.Kind(1 + s.Intn(3))})
	}
	if s.Intn(15) == 0 {
		l[s.Intn(len(l))] = api.Column{Name: []string{"a", "", "A"}[s.Intn(3)], Kind: api.Kind(s.Intn(5))}
	}
	return l
}

// horizon is that of those that run.
func (s *script) horizon() uint64 { return snap.Horizon(s.log, s.open) }

// turn begins a transaction, or ends one, whose snapshot is asked on now and then.
func (s *script) turn(most int) {
	s.Helper()
	if len(s.open) == 0 || len(s.open) < most && s.Intn(2) == 0 {
		s.open = append(s.open, s.begin())
		return
	}
	at := s.Intn(len(s.open))
	one := s.open[at]
	s.open = slices.Delete(s.open, at, at+1)
	if s.Intn(3) > 0 {
		s.commit(one)
	} else {
		s.abort(one)
	}
	if s.Intn(2) == 0 {
		s.forget()
	}
}

// forget drops the snapshots that are over, but the newest three of them.
func (s *script) forget() {
	over := 0
	for _, one := range slices.Backward(slices.Clone(s.snaps)) {
		if s.log.State(one.Own) == clog.Running {
			continue
		}
		if over++; over > 3 {
			at := slices.IndexFunc(s.snaps, func(other snap.Snapshot) bool { return other.Own == one.Own })
			s.snaps = slices.Delete(s.snaps, at, at+1)
		}
	}
}

// act does one thing for one of the snapshots.
func (s *script) act(one snap.Snapshot) {
	s.Helper()
	switch s.Intn(12) {
	case 0, 1, 2:
		s.ask(one, s.word(), s.some())
	case 3, 4, 5, 6, 7:
		s.askIndex(one, s.word(), s.known(), []string{"a", "b", "c", "d"}[s.Intn(4)])
	case 8:
		s.askDrop(one, false, s.known())
	case 9:
		s.askDrop(one, true, s.known())
	case 10:
		s.askPrune(s.horizon())
	case 11:
		s.askPrune(s.Uint64() >> s.Intn(64))
	}
}

// newScript makes a script with its own names.
func newScript(t *testing.T, seed int64) *script {
	words := [][]string{{"n", "m"}, {"a", "b", "c", "d", "e"}, {"t", "u", "v", "w", "x", "y", "z", "i", "j", "k", "l", "m", "n", "o", "p", "q", "r", "s", "_", "_1", "t1", "t2", "t3", "t4", "t5", "t6", "T", ""}}
	return &script{world: newWorld(t), Rand: rand.New(rand.NewSource(seed)), words: words[seed%3]}
}

// P11.1 to P11.3: long scripts, held at each step against the model.
func TestScripts(t *testing.T) {
	for seed := range int64(60) {
		s := newScript(t, seed)
		most := 1 + int(seed/3)%5
		for range 500 {
			if len(s.open) == 0 || s.Intn(4) == 0 {
				s.turn(most)
				continue
			}
			one := s.open[s.Intn(len(s.open))]
			if s.Intn(15) == 0 {
				one = s.snaps[s.Intn(len(s.snaps))]
			}
			s.act(one)
		}
	}
}

// written makes a snapshot by hand, whose parts needn't fit each other, nor the log.
func (s *script) written() snap.Snapshot {
	number := func() uint64 {
		if s.Intn(15) == 0 {
			return s.Uint64()
		}
		return uint64(s.Intn(12))
	}
	one := snap.Snapshot{Own: number(), Xmin: number(), Xmax: number()}
	for range s.Intn(5) {
		one.Running = append(one.Running, number())
	}
	return one
}

// P1, P11.1 to P11.3: the same with snapshots that never were taken: their Own may be 0, may be over, may never begin.
func TestWritten(t *testing.T) {
	for seed := range int64(90) {
		s := newScript(t, seed)
		for range 200 {
			switch {
			case s.log.Next() < 10 && s.Intn(6) == 0:
				s.turn(4)
			case s.Intn(10) == 0:
				s.snaps = s.snaps[:0]
			default:
				one := s.written()
				s.snaps = append(s.snaps, one)
				s.act(one)
			}
			s.open = slices.DeleteFunc(s.open, func(one snap.Snapshot) bool { return s.log.State(one.Own) != clog.Running })
		}
	}
}

// P11.1: a snapshot that is written by hand for transaction 0: nobody has dropped what has the Xmax 0.
func TestNought(t *testing.T) {
	w := newWorld(t)
	nought := snap.Snapshot{}
	w.snaps = append(w.snaps, nought)
	one := w.begin()
	w.makes(one, "t", api.OK)
	w.makesIndex(one, "i", "t", api.OK)
	w.makes(nought, "t", api.ErrConflict)
	w.makes(nought, "i", api.ErrConflict)
	w.makes(nought, "u", api.OK)
	w.makes(nought, "u", api.ErrExists)
	w.makes(one, "u", api.ErrConflict)
	w.drops(nought, "u", api.OK)
	w.drops(nought, "u", api.OK)
	w.makes(one, "u", api.ErrConflict)
	w.askPrune(math.MaxUint64)
}

// P1: what is handed in is neither changed nor kept.
func TestArguments(t *testing.T) {
	w := newWorld(t)
	first := w.begin()
	w.commit(first)
	running := []uint64{7, 2, 9, 5, 5}
	s := snap.Snapshot{Own: 3, Xmin: 2, Xmax: 4, Running: running[:2]}
	cols := append(columns(), api.Column{Name: "spare", Kind: 9}, api.Column{})
	cols = cols[:3]
	w.book.CreateTable(w.log, s, "t", cols)
	w.book.CreateTable(w.log, s, "t", cols)
	w.book.CreateIndex(w.log, s, "i", "t", "b")
	w.book.Table(w.log, s, "t")
	w.book.Indexes(w.log, s, 1)
	w.book.DropIndex(w.log, s, "i")
	w.book.DropTable(w.log, s, "t")
	if !slices.Equal(running, []uint64{7, 2, 9, 5, 5}) {
		t.Errorf("Running has become %d", running)
	}
	if !slices.Equal(cols[:5], append(columns(), api.Column{Name: "spare", Kind: 9}, api.Column{})) {
		t.Errorf("the columns have become %v", cols[:5])
	}
	w.book.CreateTable(w.log, s, "u", cols)
	cols[0], running[0] = api.Column{Name: "other", Kind: api.Bool}, 3
	if got, ok := w.book.Table(w.log, snap.Snapshot{Own: 3}, "u"); !ok || !slices.Equal(got.Columns, columns()) {
		t.Errorf("the columns are kept: %v, %v", got, ok)
	}
	if n, states := w.log.Next(), []int{w.log.State(1), w.log.State(3)}; n != 2 || !slices.Equal(states, []int{clog.Committed, clog.None}) {
		t.Errorf("the log has changed: %d, %d", n, states)
	}
}

// spoil overwrites a list, and the memory behind it.
func spoil[T any](l []T, with T) {
	l = l[:cap(l)]
	for i := range l {
		l[i] = with
	}
}

// P1: results share no memory with the book, nor with each other.
func TestResults(t *testing.T) {
	w := newWorld(t)
	s := w.begin()
	for _, name := range []string{"t", "u", "v"} {
		w.makes(s, name, api.OK)
		w.makesIndex(s, name+"i", name, api.OK)
		w.makesIndex(s, name+"j", name, api.OK)
	}
	w.check()
	all, again := w.book.Tables(), w.book.Tables()
	one, _ := w.book.Table(w.log, s, "t")
	two, _ := w.book.Table(w.log, s, "t")
	spoil(one.Columns, api.Column{Name: "spoilt"})
	spoil(all[0].Columns, api.Column{Name: "spoilt"})
	if !slices.Equal(two.Columns, columns()) || !slices.Equal(all[1].Columns, columns()) || !slices.EqualFunc(again, w.book.Tables(), same) {
		t.Error("the columns of two results are one list")
	}
	spoil(all, book.Table{})
	a, b := w.book.Indexes(w.log, s, 1), w.book.Indexes(w.log, s, 1)
	c, d := w.book.Keep(w.log, 1), w.book.Keep(w.log, 1)
	spoil(a, book.Index{})
	spoil(c, book.Index{})
	if !slices.Equal(b, d) || len(b) != 2 {
		t.Errorf("two lists of indexes are one: %v, %v", b, d)
	}
	w.check()
	w.drops(s, "t", api.OK)
	if two.Xmax != 0 || b[0].Xmax != 0 || again[0].Xmax != 0 {
		t.Error("a result changes with the book")
	}
	w.abort(s)
	tables, indexes := w.askPrune(0)
	spoil(tables, 9)
	if !slices.Equal(indexes, []uint64{2, 3, 5, 6, 8, 9}) {
		t.Errorf("the lists of Prune are one: %d", indexes)
	}
	spoil(indexes, 9)
	w.check()
}

// P2: two books know nothing of each other.
func TestTwoBooks(t *testing.T) {
	w := newWorld(t)
	s := w.begin()
	other := book.New()
	w.makes(s, "t", api.OK)
	w.makesIndex(s, "i", "t", api.OK)
	if id, e := other.CreateTable(w.log, s, "t", columns()); id != 1 || e != api.OK {
		t.Errorf("the other book: %d, %d", id, e)
	}
	if l := other.Keep(w.log, 1); len(l) != 0 {
		t.Errorf("the other book: %v", l)
	}
	w.check()
}
