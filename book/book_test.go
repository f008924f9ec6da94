package book_test

import (
	"math"
	"slices"
	"strconv"
	"strings"
	"testing"

	"lapidary/api"
	"lapidary/book"
	"lapidary/snap"
)

// P11.1: the example of the document.
func TestExample(t *testing.T) {
	w := newWorld(t)
	one, two := w.begin(), w.begin()
	if id := w.makes(one, "t", api.OK); id != 1 {
		t.Errorf("the first ID is %d", id)
	}
	w.makes(two, "t", api.ErrConflict)
	w.commit(one)
	w.makes(two, "t", api.ErrConflict)
	w.makes(w.begin(), "t", api.ErrExists)
}

// P11.3: a name's first byte and its later ones, each sort of them, and its length.
func TestName(t *testing.T) {
	for c := range 256 {
		one := string([]byte{byte(c)})
		letter := c >= 'a' && c <= 'z' || c == '_'
		digit := c >= '0' && c <= '9'
		if got := book.Name(one); got != letter {
			t.Errorf("Name(%q) = %v", one, got)
		}
		for _, s := range []string{"a" + one, "_" + one, "z9" + one, "a" + one + "_", strings.Repeat("x", api.MaxName-1) + one} {
			if got := book.Name(s); got != (letter || digit) {
				t.Errorf("Name(%q) = %v", s, got)
			}
		}
		if s := strings.Repeat("x", api.MaxName) + one; book.Name(s) {
			t.Errorf("Name(%q) = true", s)
		}
	}
	for n := range 3 * api.MaxName {
		for _, c := range []string{"a", "z", "_"} {
			if s := strings.Repeat(c, n); book.Name(s) != (n >= 1 && n <= api.MaxName) {
				t.Errorf("Name(%q) = %v", s, book.Name(s))
			}
		}
	}
}

// wrong lists texts that are no names.
func wrong() []string {
	return []string{"", "1", "1a", "9_", "A", "aB", "Ab", "a b", " a", "a ", "a-b", "a.b", "a\x00", "\x00", "a\n", "\u00e9", "a\u00e9", "\uff41", "a\xff", "\x80", "a`", "a{", "/", ":", "a/", "a:", "\u0661", "a\u0661", strings.Repeat("a", api.MaxName+1), strings.Repeat("a", 256), strings.Repeat("a", 257), strings.Repeat("a", 100000)}
}

// right lists names.
func right() []string {
	return []string{"a", "z", "_", "a0", "a9", "__", "_1", "create", "table", "abcdefghijklmnopqrst", "uvwxyz0123456789____", strings.Repeat("_", api.MaxName)}
}

// P11.3: texts that are names, and texts that are not.
func TestNames(t *testing.T) {
	for _, s := range right() {
		if !book.Name(s) {
			t.Errorf("Name(%q) = false", s)
		}
	}
	for _, s := range wrong() {
		if book.Name(s) {
			t.Errorf("Name(%q) = true", s)
		}
	}
}

// P11.1: tables and indexes have names, and so have columns.
func TestWrongNames(t *testing.T) {
	w := newWorld(t)
	s := w.begin()
	for _, name := range right() {
		w.makes(s, name, api.OK)
		w.drops(s, name, api.OK)
		if _, e := w.ask(s, "t", []api.Column{{Name: name, Kind: api.Bool}}); e != api.OK {
			t.Errorf("a column %q: %d", name, e)
		}
		w.makesIndex(s, name, "t", api.ErrName)
		if _, e := w.askIndex(s, name, "t", name); e != api.OK {
			t.Errorf("an index %q of a column of that name: %d", name, e)
		}
		w.drops(s, "t", api.OK)
		w.abort(s)
		w.askPrune(0)
		s = w.begin()
	}
	w.makes(s, "t", api.OK)
	for _, name := range wrong() {
		w.makes(s, name, api.ErrForm)
		w.makesIndex(s, name, "t", api.ErrForm)
		w.makesIndex(s, "i", name, api.ErrName)
		w.drops(s, name, api.ErrName)
		w.dropsIndex(s, name, api.ErrName)
		for _, at := range []int{0, 1, 2} {
			c := columns()
			c[at].Name = name
			if _, e := w.ask(s, "u", c); e != api.ErrForm {
				t.Errorf("column %d is %q: %d", at, name, e)
			}
		}
		if _, e := w.askIndex(s, "i", "t", name); e != api.ErrName {
			t.Errorf("an index of column %q: %d", name, e)
		}
	}
	if id := w.makes(s, "u", api.OK); id != uint64(3*len(right()))+2 {
		t.Errorf("an error has taken an ID: %d", id)
	}
}

// many lists n columns.
func many(n int) []api.Column {
	var l []api.Column
	for i := range n {
		l = append(l, api.Column{Name: "c" + strconv.Itoa(i), Kind: api.Int + api.Kind(i%3)})
	}
	return l
}

// P11.1: the columns of a table: how many, what kinds, no two of one name.
func TestColumns(t *testing.T) {
	w := newWorld(t)
	s := w.begin()
	for n := range 3 * api.MaxColumns {
		want := api.ErrForm
		if n >= 1 && n <= api.MaxColumns {
			want = api.OK
		}
		name := "t" + strconv.Itoa(n)
		if _, e := w.ask(s, name, many(n)); e != want {
			t.Errorf("%d columns: %d", n, e)
		}
		for i := range n {
			if want == api.OK {
				if x, e := w.askIndex(s, "i"+strconv.Itoa(i), name, "c"+strconv.Itoa(i)); e != api.OK || x.Column != i {
					t.Errorf("an index of column %d of %d: %v, %d", i, n, x, e)
				}
			}
		}
		if want == api.OK {
			w.drops(s, name, api.OK)
		}
		w.abort(s)
		w.askPrune(0)
		s = w.begin()
	}
	for kind := range 256 {
		for at := range 3 {
			want := api.ErrForm
			if kind >= 1 && kind <= 3 {
				want = api.OK
			}
			c := columns()
			c[at].Kind = api.Kind(kind)
			if _, e := w.ask(s, "t", c); e != want {
				t.Errorf("column %d has kind %d: %d", at, kind, e)
			}
			if want == api.OK {
				w.drops(s, "t", api.OK)
			}
		}
	}
	w.abort(s)
	w.askPrune(0)
	s = w.begin()
	for n := 2; n <= api.MaxColumns; n++ {
		for i := range n {
			for j := range i {
				c := many(n)
				c[i].Name = c[j].Name
				if _, e := w.ask(s, "t", c); e != api.ErrForm {
					t.Errorf("columns %d and %d have one name: %d", i, j, e)
				}
			}
		}
	}
	if _, e := w.ask(s, "c1", many(3)); e != api.OK {
		t.Errorf("a column that is named as its table: %d", e)
	}
}

// P11.1: names that others have made, dropped, committed, aborted: to be made once more by one that sees it all, and by one that began ahead of it.
func TestTaken(t *testing.T) {
	for _, c := range []struct {
		what          string
		early, late   api.Errno // for one that began ahead of all, and for one that begins now
		ready, do     func(w *world, s snap.Snapshot)
		commit, abort bool
	}{
		{what: "nothing"},
		{what: "made by one that runs", early: api.ErrConflict, late: api.ErrConflict, do: func(w *world, s snap.Snapshot) { w.makes(s, "n", api.OK) }},
		{what: "made by one that committed", early: api.ErrConflict, late: api.ErrExists, do: func(w *world, s snap.Snapshot) { w.makes(s, "n", api.OK) }, commit: true},
		{what: "made by one that aborted", do: func(w *world, s snap.Snapshot) { w.makes(s, "n", api.OK) }, abort: true},
		{what: "there", early: api.ErrExists, late: api.ErrExists, ready: func(w *world, s snap.Snapshot) { w.makes(s, "n", api.OK) }},
		{what: "dropped by one that runs", early: api.ErrExists, late: api.ErrExists, ready: func(w *world, s snap.Snapshot) { w.makes(s, "n", api.OK) }, do: func(w *world, s snap.Snapshot) { w.drops(s, "n", api.OK) }},
		{what: "dropped by one that committed", early: api.ErrExists, ready: func(w *world, s snap.Snapshot) { w.makes(s, "n", api.OK) }, do: func(w *world, s snap.Snapshot) { w.drops(s, "n", api.OK) }, commit: true},
		{what: "dropped by one that aborted", early: api.ErrExists, late: api.ErrExists, ready: func(w *world, s snap.Snapshot) { w.makes(s, "n", api.OK) }, do: func(w *world, s snap.Snapshot) { w.drops(s, "n", api.OK) }, abort: true},
		{what: "made and dropped by one that runs", early: api.ErrConflict, late: api.ErrConflict, do: makeAndDrop},
		{what: "made and dropped by one that committed", do: makeAndDrop, commit: true},
		{what: "made and dropped by one that aborted", do: makeAndDrop, abort: true},
		{what: "dropped and made again by one that runs", early: api.ErrExists, late: api.ErrExists, ready: func(w *world, s snap.Snapshot) { w.makes(s, "n", api.OK) }, do: dropAndMake},
		{what: "dropped and made again by one that committed", early: api.ErrExists, late: api.ErrExists, ready: func(w *world, s snap.Snapshot) { w.makes(s, "n", api.OK) }, do: dropAndMake, commit: true},
		{what: "dropped and made again by one that aborted", early: api.ErrExists, late: api.ErrExists, ready: func(w *world, s snap.Snapshot) { w.makes(s, "n", api.OK) }, do: dropAndMake, abort: true},
	} {
		w := newWorld(t)
		first := w.begin()
		w.makes(first, "t", api.OK)
		if c.ready != nil {
			c.ready(w, first)
		}
		w.commit(first)
		early, other := w.begin(), w.begin()
		if c.do != nil {
			c.do(w, other)
		}
		if c.commit {
			w.commit(other)
		}
		if c.abort {
			w.abort(other)
		}
		late := w.begin()
		for _, s := range []snap.Snapshot{early, late} {
			want := c.early
			if s.Own == late.Own {
				want = c.late
			}
			t.Log(c.what)
			w.makesIndex(s, "n", "t", want)
			if want != api.OK {
				w.makes(s, "n", want)
			} else {
				w.dropsIndex(s, "n", api.OK)
				w.makes(s, "n", want)
				w.abort(s)
			}
		}
	}
}

// makeAndDrop makes n, and drops it.
func makeAndDrop(w *world, s snap.Snapshot) {
	w.makes(s, "n", api.OK)
	w.drops(s, "n", api.OK)
}

// dropAndMake drops n, and makes it once more.
func dropAndMake(w *world, s snap.Snapshot) {
	w.drops(s, "n", api.OK)
	w.makes(s, "n", api.OK)
}

// P11.1: one transaction may make a name again that it has dropped, as often as it likes, also as the other kind, whether it had made it itself or found it.
func TestAgain(t *testing.T) {
	w := newWorld(t)
	s := w.begin()
	w.makes(s, "t", api.OK)
	w.makes(s, "n", api.OK)
	w.commit(s)
	s = w.begin()
	other := w.begin()
	for range 3 {
		w.makes(s, "n", api.ErrExists)
		w.makesIndex(s, "n", "t", api.ErrExists)
		w.drops(s, "n", api.OK)
		w.drops(s, "n", api.ErrName)
		w.makesIndex(s, "n", "t", api.OK)
		w.makesIndex(s, "n", "t", api.ErrExists)
		w.makes(s, "n", api.ErrExists)
		w.drops(s, "n", api.ErrName)
		w.dropsIndex(s, "n", api.OK)
		w.dropsIndex(s, "n", api.ErrName)
		w.makes(s, "n", api.OK)
	}
	w.makes(other, "n", api.ErrExists)
	w.drops(other, "n", api.ErrConflict)
	w.commit(s)
	w.makes(other, "n", api.ErrExists)
	w.drops(other, "n", api.ErrConflict)
	w.makes(w.begin(), "n", api.ErrExists)
}

// P11.1: a name that one transaction has dropped, and that another one holds as well, is not free to the first one.
func TestDroppedHere(t *testing.T) {
	w := newWorld(t)
	s := w.begin()
	w.makes(s, "n", api.OK)
	w.commit(s)
	one, two := w.begin(), w.begin()
	w.drops(one, "n", api.OK)
	w.abort(one)
	w.drops(two, "n", api.OK)
	three := w.begin()
	w.makes(three, "n", api.ErrExists)
	w.makes(two, "n", api.OK)
	w.drops(two, "n", api.OK)
	w.commit(two)
	w.makes(three, "n", api.ErrExists)
	four := w.begin()
	w.makes(four, "n", api.OK)
	w.drops(three, "n", api.ErrConflict)
	w.makes(three, "n", api.ErrExists)
}

// P11.1: a table that one transaction drops while another one makes an index of it: for the one that drops it the index's name is not free, as it was not this one that dropped the index.
func TestIndexBehindDrop(t *testing.T) {
	w := newWorld(t)
	s := w.begin()
	w.makes(s, "t", api.OK)
	w.makesIndex(s, "i", "t", api.OK)
	w.commit(s)
	one, two := w.begin(), w.begin()
	w.drops(one, "t", api.OK)
	x := w.makesIndex(two, "j", "t", api.OK)
	w.makes(one, "i", api.OK)
	w.makes(one, "j", api.ErrConflict)
	w.makes(two, "j", api.ErrExists)
	w.makes(two, "i", api.ErrExists)
	w.commit(one)
	w.makes(two, "j", api.ErrExists)
	late := w.begin()
	w.makes(late, "j", api.OK)
	w.commit(two)
	later := w.begin()
	if l := w.book.Indexes(w.log, later, 1); len(l) != 0 {
		t.Errorf("an index of a table that is gone is visible: %v", l)
	}
	w.dropsIndex(later, "j", api.ErrName)
	w.makes(later, "j", api.ErrConflict)
	w.abort(late)
	w.makes(later, "j", api.OK)
	if l := w.book.Keep(w.log, 1); len(l) != 2 || l[1].ID != x || l[1].Xmax != 0 {
		t.Errorf("Keep = %v", l)
	}
	if tables, indexes := w.askPrune(later.Xmin); !slices.Contains(tables, 1) || !slices.Equal(indexes, []uint64{2, x}) {
		t.Errorf("Prune = %d, %d", tables, indexes)
	}
}

// P11.1: the index of a table that another one drops is alive as long as the table may come back.
func TestIndexOfDropped(t *testing.T) {
	w := newWorld(t)
	s := w.begin()
	w.makes(s, "t", api.OK)
	w.commit(s)
	one, two := w.begin(), w.begin()
	w.makesIndex(two, "j", "t", api.OK)
	w.drops(one, "t", api.OK)
	w.commit(two)
	three := w.begin()
	w.makes(three, "j", api.ErrExists)
	w.makes(one, "j", api.ErrConflict)
	w.dropsIndex(three, "j", api.OK)
	w.abort(three)
	w.abort(one)
	four := w.begin()
	w.makes(four, "j", api.ErrExists)
	w.dropsIndex(four, "j", api.OK)
	w.drops(four, "t", api.OK)
	w.makes(four, "t", api.OK)
	w.makesIndex(four, "j", "t", api.OK)
}

// P11.1, P11.3: to a snapshot of a transaction that is over several entries with one name are visible: that with the least ID counts.
func TestLeast(t *testing.T) {
	w := newWorld(t)
	s := w.begin()
	old := w.makes(s, "n", api.OK)
	w.makes(s, "t", api.OK)
	index := w.makesIndex(s, "i", "t", api.OK)
	w.commit(s)
	over := w.begin()
	for range 2 {
		w.drops(over, "n", api.OK)
		if _, e := w.ask(over, "n", many(1)); e != api.OK {
			t.Fatal(e)
		}
		w.dropsIndex(over, "i", api.OK)
		w.makesIndex(over, "i", "t", api.OK)
	}
	w.abort(over)
	next := w.begin()
	w.drops(next, "n", api.OK)
	w.dropsIndex(next, "i", api.OK)
	if got, ok := w.book.Table(w.log, over, "n"); !ok || got.ID != old {
		t.Errorf("Table = %v, %v", got, ok)
	}
	if l := w.book.Indexes(w.log, over, 2); len(l) != 2 || l[0].ID != index {
		t.Errorf("Indexes = %v", l)
	}
	w.drops(over, "n", api.ErrConflict)
	w.dropsIndex(over, "i", api.ErrConflict)
	w.makes(over, "n", api.ErrExists)
	w.makesIndex(over, "j", "n", api.OK)
	w.abort(next)
	if id, e := w.askDrop(over, false, "n"); id != old || e != api.OK {
		t.Errorf("DropTable = %d, %d", id, e)
	}
	if got, ok := w.book.Table(w.log, over, "n"); !ok || got.ID == old {
		t.Errorf("Table = %v, %v", got, ok)
	}
	if id, e := w.askDrop(over, true, "i"); id != index || e != api.OK {
		t.Errorf("DropIndex = %d, %d", id, e)
	}
	w.drops(over, "n", api.OK)
	w.drops(over, "n", api.ErrName)
	w.dropsIndex(over, "i", api.OK)
	w.dropsIndex(over, "i", api.ErrName)
	w.askPrune(w.log.Next())
}

// P11.1: MaxTables tables, whatever has become of them, until they are pruned.
func TestMaxTables(t *testing.T) {
	w := newWorld(t)
	s := w.begin()
	for i := range api.MaxTables {
		w.makes(s, "t"+strconv.Itoa(i), api.OK)
	}
	w.makes(s, "more", api.ErrFull)
	w.makes(s, "t0", api.ErrExists)
	w.makes(s, "", api.ErrForm)
	w.makesIndex(s, "i", "t0", api.OK)
	w.makes(s, "i", api.ErrExists)
	other := w.begin()
	w.makes(other, "t0", api.ErrConflict)
	w.makes(other, "i", api.ErrConflict)
	w.makes(other, "more", api.ErrFull)
	w.commit(s)
	s = w.begin()
	w.drops(s, "t3", api.OK)
	w.drops(s, "t5", api.OK)
	w.makes(s, "t3", api.ErrFull)
	w.commit(s)
	w.makes(w.begin(), "t3", api.ErrFull)
	w.askPrune(s.Own)
	w.makes(w.begin(), "t3", api.ErrFull)
	if tables, _ := w.askPrune(s.Own + 1); !slices.Equal(tables, []uint64{4, 6}) {
		t.Errorf("Prune = %d", tables)
	}
	s = w.begin()
	for i := range 2 {
		if id := w.makes(s, "new"+strconv.Itoa(i), api.OK); id != api.MaxTables+2+uint64(i) {
			t.Errorf("ID %d", id)
		}
	}
	w.makes(s, "more", api.ErrFull)
	w.abort(s)
	w.makes(w.begin(), "more", api.ErrFull)
	w.askPrune(0)
	w.makes(w.begin(), "more", api.OK)
}

// P11.1: MaxIndexes indexes of all tables together, whatever has become of them, until they are pruned.
func TestMaxIndexes(t *testing.T) {
	w := newWorld(t)
	s := w.begin()
	w.makes(s, "t", api.OK)
	w.makes(s, "u", api.OK)
	for i := range api.MaxIndexes {
		w.makesIndex(s, "i"+strconv.Itoa(i), []string{"t", "u"}[i%2], api.OK)
	}
	w.makesIndex(s, "more", "t", api.ErrFull)
	w.makesIndex(s, "more", "v", api.ErrName)
	w.makesIndex(s, "i0", "t", api.ErrExists)
	w.makesIndex(s, "t", "t", api.ErrExists)
	w.makesIndex(s, "1", "t", api.ErrForm)
	w.commit(s)
	one, two := w.begin(), w.begin()
	w.makes(one, "n", api.OK)
	w.makesIndex(two, "n", "t", api.ErrConflict)
	w.makesIndex(two, "m", "u", api.ErrFull)
	w.drops(two, "u", api.OK)
	w.makesIndex(two, "m", "t", api.ErrFull)
	w.commit(two)
	w.abort(one)
	w.makesIndex(w.begin(), "m", "t", api.ErrFull)
	if _, indexes := w.askPrune(two.Own + 1); len(indexes) != api.MaxIndexes/2 {
		t.Errorf("Prune = %d", indexes)
	}
	s = w.begin()
	for i := range api.MaxIndexes / 2 {
		w.makesIndex(s, "j"+strconv.Itoa(i), "t", api.OK)
	}
	w.makesIndex(s, "m", "t", api.ErrFull)
	w.abort(s)
	w.makesIndex(w.begin(), "m", "t", api.ErrFull)
	w.askPrune(0)
	w.makesIndex(w.begin(), "m", "t", api.OK)
}

// P11.1: which error comes first where several apply.
func TestErrorsInOrder(t *testing.T) {
	w := newWorld(t)
	s := w.begin()
	for i := range api.MaxTables {
		w.makes(s, "t"+strconv.Itoa(i), api.OK)
	}
	for i := range api.MaxIndexes {
		w.makesIndex(s, "i"+strconv.Itoa(i), "t0", api.OK)
	}
	w.commit(s)
	one, two := w.begin(), w.begin()
	w.drops(one, "t1", api.OK)
	w.drops(one, "t2", api.OK)
	w.commit(one)
	w.makes(two, "t1", api.ErrExists)
	w.makesIndex(two, "t1", "t2", api.ErrExists)
	w.makesIndex(two, "t1", "nobody", api.ErrName)
	w.makesIndex(two, "T1", "nobody", api.ErrForm)
	if _, e := w.ask(two, "t1", nil); e != api.ErrForm {
		t.Errorf("a name that exists, without columns: %d", e)
	}
	if _, e := w.askIndex(two, "t1", "t3", "x"); e != api.ErrName {
		t.Errorf("a name that exists, a column that doesn't: %d", e)
	}
	w.askPrune(one.Own + 1)
	w.makes(two, "t1", api.OK)
	three := w.begin()
	w.makes(three, "t1", api.ErrConflict)
	w.makesIndex(three, "t1", "t0", api.ErrConflict)
	w.makesIndex(three, "m", "t0", api.ErrFull)
	w.makesIndex(three, "t1", "t1", api.ErrName)
	w.makes(three, "m", api.OK)
	w.makes(three, "m2", api.ErrFull)
	w.makes(three, "t1", api.ErrConflict)
}

// P11.1: an entry that is visible counts ahead of one that is alive and not visible, whichever is older.
func TestExistsAheadOfConflict(t *testing.T) {
	for _, committed := range []bool{false, true} {
		w := newWorld(t)
		s := w.begin()
		w.makes(s, "t", api.OK)
		w.makes(s, "n", api.OK)
		w.commit(s)
		old, other := w.begin(), w.begin()
		w.drops(other, "n", api.OK)
		w.makesIndex(other, "n", "t", api.OK)
		if committed {
			w.commit(other)
		}
		w.makes(old, "n", api.ErrExists)
		w.makesIndex(old, "n", "t", api.ErrExists)
		w.drops(old, "n", api.ErrConflict)
		w.dropsIndex(old, "n", api.ErrName)
	}
}

// P11.2: an index goes with its table, if it is visible; what another one has dropped, or drops, is a conflict, and then nothing has changed.
func TestDropTable(t *testing.T) {
	w := newWorld(t)
	s := w.begin()
	id := w.makes(s, "t", api.OK)
	w.makes(s, "u", api.OK)
	w.makesIndex(s, "i", "t", api.OK)
	w.makesIndex(s, "j", "t", api.OK)
	w.makesIndex(s, "k", "u", api.OK)
	w.makesIndex(s, "l", "t", api.OK)
	w.commit(s)
	one, two := w.begin(), w.begin()
	w.dropsIndex(one, "j", api.OK)
	w.drops(two, "t", api.ErrConflict)
	if l := w.book.Indexes(w.log, two, id); len(l) != 3 || l[0].Xmax != 0 || l[1].Xmax != one.Own || l[2].Xmax != 0 {
		t.Errorf("Indexes = %v", l)
	}
	w.abort(one)
	three := w.begin()
	w.dropsIndex(two, "l", api.OK)
	if got, e := w.askDrop(two, false, "t"); got != id || e != api.OK {
		t.Errorf("DropTable = %d, %d", got, e)
	}
	if l := w.book.Indexes(w.log, two, id); len(l) != 0 {
		t.Errorf("Indexes = %v", l)
	}
	if l := w.book.Keep(w.log, id); len(l) != 3 || l[0].Xmax != two.Own || l[1].Xmax != two.Own || l[2].Xmax != two.Own {
		t.Errorf("Keep = %v", l)
	}
	w.drops(two, "t", api.ErrName)
	w.dropsIndex(two, "i", api.ErrName)
	w.dropsIndex(two, "k", api.OK)
	w.drops(three, "t", api.ErrConflict)
	w.dropsIndex(three, "i", api.ErrConflict)
	w.dropsIndex(three, "k", api.ErrConflict)
	w.drops(three, "u", api.ErrConflict)
	w.abort(two)
	w.drops(three, "u", api.OK)
	w.drops(three, "t", api.OK)
	w.commit(three)
	late := w.begin()
	w.drops(late, "t", api.ErrName)
	w.drops(one, "t", api.ErrConflict)
}

// P11.2: an index that isn't visible stays as it is when its table is dropped.
func TestDropTableWithUnseen(t *testing.T) {
	w := newWorld(t)
	s := w.begin()
	id := w.makes(s, "t", api.OK)
	w.commit(s)
	one, two := w.begin(), w.begin()
	w.makesIndex(one, "i", "t", api.OK)
	w.drops(two, "t", api.OK)
	w.dropsIndex(two, "i", api.ErrName)
	w.dropsIndex(one, "i", api.OK)
	w.makesIndex(one, "i", "t", api.OK)
	w.drops(one, "t", api.ErrConflict)
	w.commit(one)
	w.commit(two)
	l := w.book.Keep(w.log, id)
	if len(l) != 2 || l[0].Xmax != one.Own || l[1].Xmax != 0 {
		t.Errorf("Keep = %v", l)
	}
	w.makes(w.begin(), "i", api.OK)
}

// P11.2: what is not visible has no name that could be dropped: of another one that runs, that was aborted, that was dropped, or of the other kind.
func TestDropNothing(t *testing.T) {
	w := newWorld(t)
	early, s, gone := w.begin(), w.begin(), w.begin()
	w.makes(s, "t", api.OK)
	w.makesIndex(s, "i", "t", api.OK)
	w.makes(gone, "u", api.OK)
	w.makesIndex(gone, "j", "u", api.OK)
	w.abort(gone)
	late := w.begin()
	for _, one := range []snap.Snapshot{early, late, s} {
		for _, name := range []string{"u", "j", "v", ""} {
			w.drops(one, name, api.ErrName)
			w.dropsIndex(one, name, api.ErrName)
		}
		if one.Own != s.Own {
			w.drops(one, "t", api.ErrName)
			w.dropsIndex(one, "i", api.ErrName)
		}
		w.drops(one, "i", api.ErrName)
		w.dropsIndex(one, "t", api.ErrName)
	}
	w.commit(s)
	w.drops(early, "t", api.ErrName)
	w.dropsIndex(late, "i", api.ErrName)
	w.dropsIndex(w.begin(), "i", api.OK)
}

// P11.3: Prune removes what is aborted, and what was dropped below the horizon, and the indexes of such tables; it lists the IDs of each kind.
func TestPrune(t *testing.T) {
	w := newWorld(t)
	if tables, indexes := w.askPrune(math.MaxUint64); len(tables)+len(indexes) != 0 {
		t.Errorf("Prune of an empty book = %d, %d", tables, indexes)
	}
	s := w.begin()
	for _, name := range []string{"t", "u", "v"} {
		w.makes(s, name, api.OK)
		w.makesIndex(s, name+"_i", name, api.OK)
	}
	w.commit(s)
	one, two, three := w.begin(), w.begin(), w.begin()
	w.dropsIndex(one, "t_i", api.OK)
	w.drops(two, "u", api.OK)
	w.makesIndex(three, "late", "u", api.OK)
	w.makes(three, "w", api.OK)
	w.makesIndex(three, "later", "w", api.OK)
	hold := func(horizon uint64, tables, indexes []uint64) {
		t.Helper()
		if a, b := w.askPrune(horizon); !slices.Equal(a, tables) || !slices.Equal(b, indexes) {
			t.Errorf("Prune(%d) = %d, %d, want %d, %d", horizon, a, b, tables, indexes)
		}
	}
	hold(math.MaxUint64, nil, nil)
	w.commit(one)
	w.commit(two)
	hold(0, nil, nil)
	hold(one.Own, nil, nil)
	hold(two.Own, nil, []uint64{2})
	hold(two.Own, nil, nil)
	hold(two.Own+1, []uint64{3}, []uint64{4, 7})
	w.abort(three)
	hold(0, []uint64{8}, []uint64{9})
	hold(math.MaxUint64, nil, nil)
	if id := w.makes(w.begin(), "u", api.OK); id != 10 {
		t.Errorf("ID %d behind prunings", id)
	}
}

// P11.3: what is listed is in order of the IDs, also where entries between have been pruned, and only of the table that is asked for.
func TestLists(t *testing.T) {
	w := newWorld(t)
	s := w.begin()
	w.makes(s, "t", api.OK)
	w.makes(s, "u", api.OK)
	for i := range 8 {
		w.makesIndex(s, "i"+strconv.Itoa(i), []string{"t", "u"}[i%2], api.OK)
	}
	w.commit(s)
	s = w.begin()
	w.dropsIndex(s, "i2", api.OK)
	w.makes(s, "v", api.OK)
	w.commit(s)
	s = w.begin()
	w.makes(s, "w", api.OK)
	w.makesIndex(s, "j", "t", api.OK)
	w.abort(s)
	w.askPrune(s.Own)
	s = w.begin()
	w.makes(s, "x", api.OK)
	w.makesIndex(s, "k", "t", api.OK)
	w.dropsIndex(s, "i4", api.OK)
	ids := func(l []book.Index) []uint64 {
		var out []uint64
		for _, x := range l {
			out = append(out, x.ID)
		}
		return out
	}
	if got := ids(w.book.Indexes(w.log, s, 1)); !slices.Equal(got, []uint64{3, 9, 15}) {
		t.Errorf("Indexes = %d", got)
	}
	if got := ids(w.book.Keep(w.log, 1)); !slices.Equal(got, []uint64{3, 7, 9, 15}) {
		t.Errorf("Keep = %d", got)
	}
	if got := ids(w.book.Keep(w.log, 2)); !slices.Equal(got, []uint64{4, 6, 8, 10}) {
		t.Errorf("Keep of the other = %d", got)
	}
	var tables []uint64
	for _, one := range w.book.Tables() {
		tables = append(tables, one.ID)
	}
	if !slices.Equal(tables, []uint64{1, 2, 11, 14}) {
		t.Errorf("Tables = %d", tables)
	}
}

// P1, P11.3: a nil book answers ErrNone, false or nothing, whatever it is asked.
func TestNilBook(t *testing.T) {
	var b *book.Book
	w := newWorld(t)
	s := w.begin()
	for _, name := range []string{"t", "", "T"} {
		for _, c := range [][]api.Column{columns(), nil} {
			if id, e := b.CreateTable(w.log, s, name, c); id != 0 || e != api.ErrNone {
				t.Errorf("CreateTable = %d, %d", id, e)
			}
		}
		if x, e := b.CreateIndex(w.log, s, name, "t", "b"); x != (book.Index{}) || e != api.ErrNone {
			t.Errorf("CreateIndex = %v, %d", x, e)
		}
		if id, e := b.DropTable(nil, s, name); id != 0 || e != api.ErrNone {
			t.Errorf("DropTable = %d, %d", id, e)
		}
		if id, e := b.DropIndex(nil, s, name); id != 0 || e != api.ErrNone {
			t.Errorf("DropIndex = %d, %d", id, e)
		}
		if x, ok := b.Table(w.log, s, name); ok || !same(x, book.Table{}) {
			t.Errorf("Table = %v, %v", x, ok)
		}
	}
	tables, indexes := b.Prune(w.log, 5)
	if n := len(b.Indexes(w.log, s, 1)) + len(b.Keep(w.log, 1)) + len(b.Tables()) + len(tables) + len(indexes); n != 0 {
		t.Errorf("a nil book lists %d", n)
	}
}

// P1, P11.1 to P11.3: to a nil log nothing has ever begun: only what Own has made is visible, all is alive, nothing is dead.
func TestNilLog(t *testing.T) {
	w := newWorld(t)
	w.log = nil
	one, two := snap.Snapshot{Own: 1, Xmin: 5, Xmax: 5}, snap.Snapshot{Own: 2, Xmin: 5, Xmax: 5}
	w.snaps = []snap.Snapshot{one, two, {}, {Xmax: 9}}
	w.makes(one, "t", api.OK)
	w.makesIndex(one, "i", "t", api.OK)
	w.makes(two, "t", api.ErrConflict)
	w.makesIndex(two, "j", "t", api.ErrName)
	w.makes(two, "u", api.OK)
	w.askPrune(math.MaxUint64)
	w.drops(two, "t", api.ErrName)
	w.drops(one, "t", api.OK)
	w.makes(two, "i", api.ErrConflict)
	w.makes(one, "t", api.OK)
	w.askPrune(math.MaxUint64)
}
