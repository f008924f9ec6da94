package store_test

import (
	"math"
	"slices"
	"strconv"
	"strings"
	"testing"

	"lapidary/api"
	"lapidary/book"
	"lapidary/key"
	"lapidary/samples"
	"lapidary/store"
)

// P12.1 to P12.3: the example of the document.
func TestExample(t *testing.T) {
	w := newWorld(t, 1)
	one := w.begin()
	w.is(api.OK, w.createTable(one, "t", []api.Column{{Name: "a", Kind: api.Int}}))
	w.is(api.OK, w.insert(one, "t", samples.Number(7)))
	w.is(api.OK, w.commit(one))
	two, three := w.begin(), w.begin()
	if one != 1 || two != 2 || three != 3 {
		t.Errorf("the transactions are %d, %d, %d", one, two, three)
	}
	w.is(api.OK, w.update(two, "t", w.holds(two, "t", 7)[0], samples.Number(8)))
	w.is(api.ErrConflict, w.update(three, "t", w.holds(three, "t", 7)[0], samples.Number(8)))
}

// P12.1: stores of so many pages, and of too many.
func TestNew(t *testing.T) {
	for _, n := range []int{0, 1, 2, 255, api.MaxPages} {
		w := newWorld(t, n)
		w.shows(nil, nil, n)
		if id := w.begin(); id != 1 {
			t.Errorf("the first transaction is %d", id)
		}
	}
	for _, n := range []int{-1, -256, api.MaxPages + 1, 512, 1 << 16, 1 << 32, 1<<32 + 1, math.MinInt, math.MaxInt} {
		if s, e := store.New(n); s != nil || e != api.ErrArg {
			t.Errorf("New(%d) = %v, %d", n, s, e)
		}
	}
}

// P12.1: transactions begin and end, in any order.
func TestTransactions(t *testing.T) {
	w := newWorld(t, 1)
	for n := range uint64(5) {
		if xid := w.begin(); xid != n+1 {
			t.Errorf("transaction %d is %d", n+1, xid)
		}
	}
	w.is(api.OK, w.commit(3))
	w.is(api.OK, w.abort(1))
	for _, xid := range []uint64{0, 1, 3, 6, math.MaxUint64} {
		w.is(api.ErrNone, w.commit(xid))
		w.is(api.ErrNone, w.abort(xid))
	}
	if l := w.store.Running(); !slices.Equal(l, []uint64{2, 4, 5}) {
		t.Errorf("%d run", l)
	}
	w.is(api.OK, w.abort(5))
	w.is(api.OK, w.commit(2))
	w.is(api.OK, w.commit(4))
	if l := w.store.Running(); len(l) != 0 {
		t.Errorf("%d run", l)
	}
	if xid := w.begin(); xid != 6 {
		t.Errorf("transaction 6 is %d", xid)
	}
}

// P12.1 to P12.3: one that never began, that committed, that aborted, is ErrNone, whatever else is wrong.
func TestNotRunning(t *testing.T) {
	w := filled(t, 3, 1, 2)
	committed, aborted := w.begin(), w.begin()
	r := w.holds(committed, "t", 1, 2)[0]
	w.is(api.OK, w.insert(committed, "t", values(3)...))
	w.is(api.OK, w.insert(aborted, "t", values(4)...))
	w.is(api.OK, w.createTable(aborted, "u", columns()))
	w.is(api.OK, w.commit(committed))
	w.is(api.OK, w.abort(aborted))
	runs := w.begin()
	for _, xid := range []uint64{0, 1, committed, aborted, w.log.Next(), w.log.Next() + 1, 255, 256, 256 + runs, 1<<32 + runs, api.MaxXid + runs, api.MaxXid - 1, api.MaxXid, api.MaxXid + 1, 1 << 63, math.MaxUint64} {
		for _, name := range []string{"t", "u", "v", "i", "", "T"} {
			w.is(api.ErrNone, w.createTable(xid, name, columns()))
			w.is(api.ErrNone, w.createTable(xid, name, nil))
			w.is(api.ErrNone, w.dropTable(xid, name))
			w.is(api.ErrNone, w.createIndex(xid, name, name, "a"))
			w.is(api.ErrNone, w.createIndex(xid, "x", name, "a"))
			w.is(api.ErrNone, w.dropIndex(xid, name))
			w.is(api.ErrNone, w.insert(xid, name, values(5)...))
			w.is(api.ErrNone, w.insert(xid, name, samples.Invalid()[0]))
			w.is(api.ErrNone, w.update(xid, name, r, values(5)...))
			w.is(api.ErrNone, w.update(xid, name, store.Row{}))
			w.is(api.ErrNone, w.delete(xid, name, r))
			w.is(api.ErrNone, w.delete(xid, name, store.Row{ID: 99, At: at(-1, 99)}))
		}
		for id := range uint64(5) {
			_, e := w.seek(xid, id, nil, nil)
			w.is(api.ErrNone, e)
		}
		w.is(api.ErrNone, w.commit(xid))
		w.is(api.ErrNone, w.abort(xid))
	}
}

// P12.1: the errors of the book, and of them the one that comes first; tables and indexes share one set of names.
func TestCatalogErrors(t *testing.T) {
	w := filled(t, 2)
	early, late := w.begin(), w.begin()
	for _, name := range []string{"", "T", "1", strings.Repeat("a", api.MaxName+1)} {
		w.is(api.ErrForm, w.createTable(early, name, columns()))
		w.is(api.ErrForm, w.createIndex(early, name, "nobody", "a"))
		w.is(api.ErrName, w.dropTable(early, name))
		w.is(api.ErrName, w.dropIndex(early, name))
	}
	w.is(api.ErrForm, w.createTable(early, "u", nil))
	w.is(api.ErrForm, w.createTable(early, "t", make([]api.Column, 1)))
	w.is(api.ErrExists, w.createTable(early, "t", columns()))
	w.is(api.ErrExists, w.createTable(early, "i", columns()))
	w.is(api.ErrName, w.createIndex(early, "i", "nobody", "a"))
	w.is(api.ErrName, w.createIndex(early, "i", "t", "d"))
	w.is(api.ErrName, w.createIndex(early, "k", "i", "a"))
	w.is(api.ErrExists, w.createIndex(early, "i", "t", "a"))
	w.is(api.ErrExists, w.createIndex(early, "t", "t", "a"))
	w.is(api.ErrName, w.dropTable(early, "i"))
	w.is(api.ErrName, w.dropIndex(early, "t"))
	w.is(api.OK, w.createTable(late, "u", columns()))
	w.is(api.ErrConflict, w.createTable(early, "u", columns()))
	w.is(api.ErrConflict, w.createIndex(early, "u", "t", "b"))
	w.is(api.OK, w.dropIndex(late, "i"))
	w.is(api.ErrConflict, w.dropIndex(early, "i"))
	w.is(api.ErrConflict, w.dropTable(early, "t"))
	w.is(api.OK, w.commit(late))
	w.is(api.ErrConflict, w.dropIndex(early, "i"))
	w.is(api.ErrConflict, w.createTable(early, "u", columns()))
	last := w.begin()
	w.is(api.ErrExists, w.createTable(last, "u", columns()))
	w.is(api.ErrName, w.dropIndex(last, "i"))
	w.is(api.OK, w.dropTable(last, "t"))
}

// P12.1: as many tables and indexes as there may be, and one more; what is pruned makes room.
func TestMostTables(t *testing.T) {
	w := newWorld(t, 2)
	one := w.begin()
	for n := range api.MaxTables {
		w.is(api.OK, w.createTable(one, "t"+strconv.Itoa(n), columns()))
	}
	for n := range api.MaxIndexes {
		w.is(api.OK, w.createIndex(one, "i"+strconv.Itoa(n), "t"+strconv.Itoa(n%5), "a"))
	}
	w.is(api.ErrFull, w.createTable(one, "u", columns()))
	w.is(api.ErrFull, w.createIndex(one, "u", "t0", "a"))
	w.is(api.OK, w.insert(one, "t3", values(1)...))
	w.is(api.OK, w.dropTable(one, "t3"))
	w.is(api.ErrFull, w.createTable(one, "u", columns()))
	w.is(api.OK, w.commit(one))
	two := w.begin()
	w.is(api.ErrFull, w.createTable(two, "u", columns()))
	if n := w.prune(); n != 1+3 {
		t.Errorf("Prune = %d", n)
	}
	w.is(api.OK, w.createTable(two, "u", columns()))
	for n := range 3 {
		w.is(api.OK, w.createIndex(two, "u"+strconv.Itoa(n), "u", "a"))
	}
	w.is(api.ErrFull, w.createTable(two, "v", columns()))
	w.is(api.ErrFull, w.createIndex(two, "v", "u", "a"))
	w.is(api.OK, w.insert(two, "u", values(2)...))
	w.finds(two, w.store.Indexes(two, "u")[2].ID, nil, nil, 2)
}

// P12.1: an index that is made over no versions, and of each column.
func TestIndexOverNothing(t *testing.T) {
	w := filled(t, 2)
	one := w.begin()
	for _, c := range columns() {
		w.is(api.OK, w.createIndex(one, "on_"+c.Name, "t", c.Name))
	}
	w.shows([]int{0}, []int{0, 0, 0, 0}, 2)
	l := w.store.Indexes(one, "t")
	for i, x := range l {
		if x.Column != max(0, i-1) {
			t.Errorf("index %d is of column %d", i, x.Column)
		}
		w.finds(one, x.ID, nil, nil)
	}
	for n := range int64(4) {
		w.is(api.OK, w.insert(one, "t", samples.Number(n), samples.Text(strconv.Itoa(int(9-n))), samples.Truth(n%2 == 0)))
	}
	w.shows([]int{4}, []int{4, 4, 4, 4}, 1)
	w.finds(one, l[1].ID, keyOf(samples.Number(1)), keyOf(samples.Number(3)), 1, 2)
	w.finds(one, l[2].ID, keyOf(samples.Text("7")), keyOf(samples.Text("9")), 1, 2)
	w.finds(one, l[3].ID, keyOf(samples.Truth(true)), nil, 0, 2)
}

// entries makes an index and counts its entries.
func (w *world) entries(xid uint64, name string) int {
	w.Helper()
	w.is(api.OK, w.createIndex(xid, name, "t", "a"))
	l := w.store.Entries()
	return l[len(l)-1]
}

// P12.1: an index that is made over versions that live, that are dead, that are ended for some, and of those that run or were aborted.
func TestIndexOverVersions(t *testing.T) {
	w := filled(t, 4, 1, 2, 3, 4, 5, 6)
	reader := w.begin()
	l := w.holds(reader, "t", 1, 2, 3, 4, 5, 6)
	committed, aborted, runs := w.begin(), w.begin(), w.begin()
	w.is(api.OK, w.update(committed, "t", l[0], values(11)...))
	w.is(api.OK, w.delete(committed, "t", l[1]))
	w.is(api.OK, w.update(aborted, "t", l[2], values(13)...))
	w.is(api.OK, w.insert(aborted, "t", values(17)...))
	w.is(api.OK, w.update(runs, "t", l[4], values(15)...))
	w.is(api.OK, w.delete(runs, "t", l[5]))
	w.is(api.OK, w.commit(committed))
	w.is(api.OK, w.abort(aborted))
	w.shows([]int{10}, []int{10}, 3)
	maker := w.begin()
	if n := w.entries(maker, "j"); n != 8 {
		t.Errorf("%d entries beside one that reads", n)
	}
	for id := range uint64(2) {
		w.finds(maker, 2+id, nil, nil, 11, 3, 4, 5, 6)
	}
	w.is(api.OK, w.commit(reader))
	if n := w.entries(maker, "k"); n != 8 {
		t.Errorf("%d entries while they run", n)
	}
	w.is(api.OK, w.commit(maker))
	w.is(api.OK, w.commit(runs))
	maker = w.begin()
	if n := w.entries(maker, "l"); n != 4 {
		t.Errorf("%d entries when nobody else runs", n)
	}
	w.holds(maker, "t", 11, 3, 4, 15)
	for id := range uint64(4) {
		w.finds(maker, 2+id, nil, nil, 11, 3, 4, 15)
	}
	w.shows([]int{10}, []int{10, 8, 8, 4}, 3)
}

// P12.1, P12.5: an index that is made while others run has what they have done, and what they do later.
func TestIndexBesideOthers(t *testing.T) {
	w := filled(t, 4, 1, 2)
	runs, maker := w.begin(), w.begin()
	w.is(api.OK, w.insert(runs, "t", values(3)...))
	w.is(api.OK, w.createIndex(maker, "j", "t", "a"))
	w.is(api.OK, w.insert(runs, "t", values(4)...))
	w.is(api.OK, w.update(runs, "t", w.holds(runs, "t", 1, 2, 3, 4)[0], values(11)...))
	_, e := w.seek(runs, 3, nil, nil)
	w.is(api.ErrName, e)
	w.finds(maker, 3, nil, nil, 1, 2)
	w.shows([]int{5}, []int{5, 5}, 3)
	w.is(api.OK, w.commit(runs))
	w.is(api.OK, w.commit(maker))
	last := w.begin()
	w.finds(last, 3, nil, nil, 11, 2, 3, 4)
	w.is(api.OK, w.createIndex(last, "k", "t", "a"))
	w.is(api.OK, w.insert(last, "t", values(5)...))
	w.shows([]int{6}, []int{6, 6, 5}, 3)
	w.is(api.OK, w.abort(last))
	last = w.begin()
	w.is(api.OK, w.insert(last, "t", values(6)...))
	w.shows([]int{7}, []int{7, 7}, 3)
	w.finds(last, 3, nil, nil, 11, 2, 3, 4, 6)
}

// P12.2, P12.5: what is seen of one's own changes, and of those of others that run, that commit later, that abort.
func TestSeen(t *testing.T) {
	for _, commit := range []bool{true, false} {
		w := filled(t, 4, 1, 2, 3)
		early, writer := w.begin(), w.begin()
		l := w.holds(writer, "t", 1, 2, 3)
		w.is(api.OK, w.insert(writer, "t", values(4)...))
		w.is(api.OK, w.update(writer, "t", l[0], values(10)...))
		w.is(api.OK, w.delete(writer, "t", l[1]))
		late := w.begin()
		both := func(xid uint64, numbers ...int64) {
			t.Helper()
			w.holds(xid, "t", numbers...)
			w.finds(xid, 2, nil, nil, numbers...)
		}
		both(writer, 10, 3, 4)
		both(early, 1, 2, 3)
		both(late, 1, 2, 3)
		if commit {
			w.is(api.OK, w.commit(writer))
		} else {
			w.is(api.OK, w.abort(writer))
		}
		both(early, 1, 2, 3)
		both(late, 1, 2, 3)
		last := w.begin()
		if commit {
			both(last, 10, 3, 4)
		} else {
			both(last, 1, 2, 3)
		}
		w.is(api.OK, w.commit(early))
		w.sweep()
		both(late, 1, 2, 3)
		w.is(api.OK, w.abort(late))
		w.sweep()
		w.is(api.OK, w.insert(last, "t", values(5)...))
		if commit {
			both(last, 10, 3, 4, 5)
		} else {
			both(last, 1, 2, 3, 5)
		}
	}
}

// P12.2: rows come by their IDs, wherever their versions are.
func TestOrderOfRows(t *testing.T) {
	w := filled(t, 9, 1, 2, 3, 4, 5)
	one := w.begin()
	for _, r := range w.holds(one, "t", 1, 2, 3, 4, 5)[:3] {
		w.is(api.OK, w.update(one, "t", r, values(9-r.Values[0].I)...))
	}
	w.is(api.OK, w.commit(one))
	w.sweep()
	two := w.begin()
	w.is(api.OK, w.insert(two, "t", values(0)...))
	w.is(api.OK, w.update(two, "t", w.holds(two, "t", 8, 7, 6, 4, 5, 0)[4], values(3)...))
	l := w.holds(two, "t", 8, 7, 6, 4, 3, 0)
	w.finds(two, 2, nil, nil, 8, 7, 6, 4, 3, 0)
	for i, r := range l {
		if r.ID != uint64(i)+1 || !slices.Equal(r.Values, values(r.Values[0].I)) {
			t.Errorf("row %d is %v", i, r)
		}
	}
	if l[0].At != at(0, 5) || l[5].At != at(0, 0) || l[4].At != at(0, 1) {
		t.Errorf("the rows are %v", l)
	}
}

// P12.1, P12.2: tables and names that one has made, that others have, and that are gone; an index has no rows.
func TestTableNames(t *testing.T) {
	w := filled(t, 3, 1)
	early, one := w.begin(), w.begin()
	w.is(api.OK, w.createTable(one, "u", columns()))
	w.is(api.OK, w.insert(one, "u", values(5)...))
	w.is(api.OK, w.dropTable(one, "t"))
	for _, xid := range []uint64{early, one} {
		seen := "t"
		if xid == one {
			seen = "u"
		}
		for _, name := range []string{"t", "u", "i", "v", "", "T"} {
			_, ok := w.store.Table(xid, name)
			l, e := w.store.Scan(xid, name)
			if name == seen && (!ok || e != api.OK || len(l) != 1) || name != seen && (ok || e != api.ErrName || l != nil) {
				t.Errorf("%d sees %v, %v, %d in %q", xid, ok, l, e, name)
			}
			if name != seen {
				w.is(api.ErrName, w.insert(xid, name, values(6)...))
				w.is(api.ErrName, w.update(xid, name, store.Row{ID: 1}, values(6)...))
				w.is(api.ErrName, w.delete(xid, name, store.Row{ID: 1}))
			}
		}
	}
	w.is(api.OK, w.createTable(one, "t", columns()[1:]))
	w.holds(early, "t", 1)
	w.holds(one, "t")
	w.is(api.OK, w.insert(early, "t", values(2)...))
	w.is(api.OK, w.commit(one))
	w.holds(early, "t", 1, 2)
	w.finds(early, 2, nil, nil, 1, 2)
	late := w.begin()
	w.holds(late, "t")
	w.is(api.ErrArg, w.insert(late, "t", values(7)...))
	w.is(api.OK, w.insert(late, "t", values(7)[1:]...))
	if l := w.store.Indexes(late, "t"); len(l) != 0 {
		t.Errorf("the new table has %v", l)
	}
}

// P12.2: from and to are at keys, below, above, between, no keys at all, and the wrong way round.
func TestSeekBounds(t *testing.T) {
	w := filled(t, 9, 5, 3, 3, 9, -4, math.MinInt64, math.MaxInt64)
	one := w.begin()
	w.is(api.OK, w.insert(one, "t", api.Value{}, api.Value{}, api.Value{}))
	k := func(n int64) []byte { return keyOf(samples.Number(n)) }
	null := keyOf(api.Value{})
	w.finds(one, 2, nil, nil, 5, 3, 3, 9, -4, math.MinInt64, math.MaxInt64, 0)
	w.finds(one, 2, []byte{}, []byte{}, 5, 3, 3, 9, -4, math.MinInt64, math.MaxInt64, 0)
	w.finds(one, 2, k(3), key.Behind(k(3)), 3, 3)
	w.finds(one, 2, k(3), k(3))
	w.finds(one, 2, k(3), k(5), 3, 3)
	w.finds(one, 2, k(3), key.Behind(k(5)), 5, 3, 3)
	w.finds(one, 2, k(4), k(9), 5)
	w.finds(one, 2, k(4), nil, 5, 9, math.MaxInt64)
	w.finds(one, 2, k(6), k(8))
	w.finds(one, 2, k(9), k(3))
	w.finds(one, 2, k(math.MinInt64), k(math.MinInt64+1), math.MinInt64)
	w.finds(one, 2, k(math.MaxInt64), nil, math.MaxInt64)
	w.finds(one, 2, key.Behind(k(math.MaxInt64)), nil)
	w.finds(one, 2, nil, k(-4), math.MinInt64, 0)
	w.finds(one, 2, nil, null)
	w.finds(one, 2, null, key.Behind(null), 0)
	w.finds(one, 2, []byte{1}, []byte{2}, 0)
	w.finds(one, 2, []byte{2}, nil, 5, 3, 3, 9, -4, math.MinInt64, math.MaxInt64)
	w.finds(one, 2, []byte{4}, []byte{3})
	w.finds(one, 2, nil, []byte{0})
	w.finds(one, 2, append(k(3), 0), k(5))
	w.finds(one, 2, k(3)[:8], append(k(3), 0), 3, 3)
	w.finds(one, 2, slices.Repeat([]byte{3}, 700), slices.Repeat([]byte{255}, 700), 5, 3, 3, 9, -4, math.MaxInt64)
	w.finds(one, 2, slices.Repeat([]byte{255}, 700), nil)
}

// P12.2: indexes that one has made or dropped, that others have, that are gone, and what is no index.
func TestSeekIndexes(t *testing.T) {
	w := filled(t, 3, 1, 2)
	may := func(xid, index uint64, want api.Errno) {
		t.Helper()
		_, e := w.seek(xid, index, nil, nil)
		w.is(want, e)
	}
	early, one, two := w.begin(), w.begin(), w.begin()
	w.is(api.OK, w.dropIndex(one, "i"))
	may(one, 2, api.ErrName)
	may(early, 2, api.OK)
	w.is(api.OK, w.createIndex(one, "i", "t", "b"))
	w.is(api.OK, w.createIndex(two, "j", "t", "b"))
	may(one, 3, api.OK)
	may(two, 3, api.ErrName)
	may(one, 4, api.ErrName)
	may(two, 4, api.OK)
	for _, id := range []uint64{0, 1, 5, 6, math.MaxUint64} {
		may(one, id, api.ErrName)
	}
	w.is(api.OK, w.commit(one))
	w.is(api.OK, w.abort(two))
	late := w.begin()
	for id, want := range []api.Errno{api.ErrName, api.ErrName, api.OK, api.ErrName, api.ErrName, api.ErrName} {
		may(early, uint64(id), want)
	}
	for id, want := range []api.Errno{api.ErrName, api.ErrName, api.ErrName, api.OK, api.ErrName, api.ErrName} {
		may(late, uint64(id), want)
	}
	w.is(api.OK, w.dropTable(late, "t"))
	may(late, 3, api.ErrName)
	may(early, 2, api.OK)
	if n := w.prune(); n != 1 {
		t.Errorf("Prune = %d", n)
	}
	may(early, 2, api.OK)
	w.is(api.OK, w.commit(early))
	w.prune()
	may(late, 2, api.ErrName)
	w.is(api.OK, w.commit(late))
	w.prune()
	last := w.begin()
	for id := range uint64(6) {
		may(last, id, api.ErrName)
	}
}

// P12.2, P12.5: an index that another one has made since is not seen, nor one whose table another one drops once it is dropped.
func TestIndexOfDroppedTable(t *testing.T) {
	w := filled(t, 3, 1, 2)
	maker, dropper := w.begin(), w.begin()
	w.is(api.OK, w.createIndex(maker, "j", "t", "b"))
	w.is(api.OK, w.dropTable(dropper, "t"))
	w.is(api.OK, w.insert(maker, "t", values(3)...))
	w.finds(maker, 3, nil, nil, 1, 2, 3)
	w.is(api.OK, w.commit(dropper))
	w.is(api.OK, w.insert(maker, "t", values(4)...))
	w.finds(maker, 3, nil, nil, 1, 2, 3, 4)
	w.shows([]int{4}, []int{4, 4}, 2)
	w.is(api.OK, w.commit(maker))
	_, e := w.seek(w.begin(), 3, nil, nil)
	w.is(api.ErrName, e)
	if n := w.prune(); n != 3 {
		t.Errorf("Prune = %d", n)
	}
	w.shows(nil, nil, 3)
}

// P12.3: a row whose place or ID isn't right.
func TestWrongRow(t *testing.T) {
	w := filled(t, 3, 1, 2)
	one := w.begin()
	w.is(api.OK, w.createTable(one, "u", columns()))
	w.is(api.OK, w.insert(one, "u", values(3)...))
	l := w.holds(one, "t", 1, 2)
	wrong := []store.Row{{}, {ID: 2}, {ID: 1, At: at(0, 1)}, {ID: 2, At: at(0, 0)}, {ID: 0, At: at(0, 0)}, {ID: 3, At: at(0, 0)}, {ID: math.MaxUint64, At: at(0, 0)}, {ID: 1<<32 + 1, At: at(0, 0)}}
	for _, n := range []int{math.MinInt, -1, 2, 3, 255, 256, 65535, 65536, 1 << 32, math.MaxInt} {
		wrong = append(wrong, store.Row{ID: 1, At: at(n, 0)}, store.Row{ID: 1, At: at(0, n)}, store.Row{ID: 1, At: at(n, n)})
	}
	for _, r := range wrong {
		r.Values = l[0].Values
		w.is(api.ErrNone, w.update(one, "t", r, values(9)...))
		w.is(api.ErrNone, w.delete(one, "t", r))
	}
	w.is(api.ErrNone, w.update(one, "u", l[0], values(9)...))
	w.is(api.ErrNone, w.delete(one, "u", l[0]))
	w.shows([]int{2, 1}, []int{2}, 1)
	// The values of the row that is handed in don't matter.
	w.is(api.OK, w.update(one, "t", store.Row{ID: 1, At: l[0].At}, values(9)...))
	w.is(api.OK, w.delete(one, "t", store.Row{ID: 2, At: l[1].At, Values: samples.Invalid()}))
	w.holds(one, "t", 9)
}

// P12.3: a version that another one has ended, that runs, has committed, has aborted, before or since one began.
func TestEnded(t *testing.T) {
	for _, kill := range []bool{true, false} {
		for _, end := range []string{"runs", "committed", "aborted"} {
			w := filled(t, 3, 1, 2)
			early, other := w.begin(), w.begin()
			r := w.holds(early, "t", 1, 2)[0]
			if kill {
				w.is(api.OK, w.delete(other, "t", r))
			} else {
				w.is(api.OK, w.update(other, "t", r, values(10)...))
			}
			want := api.ErrConflict
			switch end {
			case "committed":
				w.is(api.OK, w.commit(other))
			case "aborted":
				w.is(api.OK, w.abort(other))
				want = api.OK
			}
			late := w.begin()
			for _, xid := range []uint64{early, late} {
				if want != api.OK {
					w.is(want, w.update(xid, "t", r, values(20)...))
				}
				w.is(want, w.delete(xid, "t", r))
				want = api.ErrConflict
			}
			if !kill {
				// What came behind: nobody sees it but its maker, and those that began when it was committed.
				next := store.Row{ID: 1, At: at(0, 2)}
				w.is(api.ErrState, w.update(early, "t", next, values(20)...))
				w.is(api.ErrState, w.delete(early, "t", next))
				want = api.ErrState
				if end == "committed" {
					want = api.OK
				}
				w.is(want, w.delete(late, "t", next))
			}
		}
	}
}

// P12.3: an own version that one has ended is not to be ended once more.
func TestEndedByOneself(t *testing.T) {
	w := filled(t, 3, 1, 2)
	one := w.begin()
	l := w.holds(one, "t", 1, 2)
	w.is(api.OK, w.update(one, "t", l[0], values(10)...))
	w.is(api.OK, w.delete(one, "t", l[1]))
	for _, r := range l {
		w.is(api.ErrState, w.update(one, "t", r, values(11)...))
		w.is(api.ErrState, w.delete(one, "t", r))
	}
	w.holds(one, "t", 10)
}

// P12.3: a row is changed many times in one transaction, and is what it was if that aborts.
func TestChangedTwice(t *testing.T) {
	for _, commit := range []bool{true, false} {
		w := filled(t, 3, 1)
		one := w.begin()
		for n := range int64(4) {
			w.is(api.OK, w.update(one, "t", w.holds(one, "t", 1+n)[0], values(2+n)...))
		}
		w.is(api.OK, w.insert(one, "t", values(8)...))
		r := w.holds(one, "t", 5, 8)[1]
		w.is(api.OK, w.update(one, "t", r, values(9)...))
		w.is(api.OK, w.delete(one, "t", w.holds(one, "t", 5, 9)[1]))
		w.holds(one, "t", 5)
		w.finds(one, 2, nil, nil, 5)
		w.shows([]int{7}, []int{7}, 2)
		if commit {
			w.is(api.OK, w.commit(one))
			w.holds(w.begin(), "t", 5)
		} else {
			w.is(api.OK, w.abort(one))
			w.holds(w.begin(), "t", 1)
		}
		w.sweep()
		w.shows([]int{1}, []int{1}, 2)
	}
}

// P12.3: a version whose end was undone may be ended by another, and by the next when that is undone, too.
func TestEndUndone(t *testing.T) {
	w := filled(t, 3, 1)
	for n := range int64(3) {
		xid := w.begin()
		w.is(api.OK, w.update(xid, "t", w.holds(xid, "t", 1)[0], values(5+n)...))
		w.is(api.OK, w.abort(xid))
		xid = w.begin()
		w.is(api.OK, w.delete(xid, "t", w.holds(xid, "t", 1)[0]))
		w.is(api.OK, w.abort(xid))
	}
	xid := w.begin()
	w.is(api.OK, w.update(xid, "t", w.holds(xid, "t", 1)[0], values(2)...))
	w.is(api.OK, w.commit(xid))
	w.shows([]int{5}, []int{5}, 2)
	w.sweep()
	w.shows([]int{1}, []int{1}, 2)
	w.holds(w.begin(), "t", 2)
}

// texts are the columns of a table whose rows may be long.
func texts(n int) []api.Column {
	var l []api.Column
	for i := range n {
		l = append(l, api.Column{Name: "c" + strconv.Itoa(i), Kind: api.Text})
	}
	return l
}

// P12.3: values that don't fit a table's columns, and rows of the most bytes and one more.
func TestFits(t *testing.T) {
	w := filled(t, 9, 1)
	one := w.begin()
	w.is(api.OK, w.createTable(one, "u", texts(4)))
	long := func(n int) []api.Value {
		return []api.Value{samples.Text(strings.Repeat("a", 60)), samples.Text(strings.Repeat("b", 60)), samples.Text(strings.Repeat("c", 60)), samples.Text(strings.Repeat("d", n))}
	}
	w.is(api.OK, w.insert(one, "u", long(0)...))
	r := func(table string) store.Row {
		l, _ := w.store.Scan(one, table)
		return l[0]
	}
	for _, c := range []struct {
		table  string
		values []api.Value
		want   api.Errno
	}{
		{"t", nil, api.ErrArg}, {"t", values(1)[:2], api.ErrArg}, {"t", append(values(1), api.Value{}), api.ErrArg}, {"t", []api.Value{{Kind: 9}}, api.ErrArg},
		{"t", []api.Value{{Kind: 9}, {}, {}}, api.ErrForm}, {"t", []api.Value{{}, samples.Text("\x00"), {}}, api.ErrForm}, {"t", []api.Value{samples.Text("a"), {}, {Kind: 4}}, api.ErrForm}, {"t", []api.Value{{}, samples.Text(strings.Repeat("a", 61)), {}}, api.ErrForm},
		{"t", []api.Value{samples.Text("a"), {}, {}}, api.ErrType}, {"t", []api.Value{{}, {}, samples.Number(1)}, api.ErrType}, {"t", []api.Value{samples.Truth(true), {}, {}}, api.ErrType},
		{"u", long(16), api.ErrLong}, {"u", long(60), api.ErrLong}, {"u", long(15), api.OK}, {"u", long(14), api.OK},
		{"t", []api.Value{{}, {}, {}}, api.OK}, {"t", []api.Value{samples.Number(math.MinInt64), samples.Text(""), samples.Truth(false)}, api.OK}, {"t", []api.Value{samples.Number(math.MaxInt64), samples.Text(strings.Repeat("\u00e9", 30)), samples.Truth(true)}, api.OK},
	} {
		w.is(c.want, w.insert(one, c.table, c.values...))
		w.is(c.want, w.update(one, c.table, r(c.table), c.values...))
		if l, _ := w.store.Scan(one, c.table); c.want == api.OK && (!slices.Equal(l[len(l)-1].Values, c.values) || !slices.Equal(l[0].Values, c.values)) {
			t.Errorf("%v has become %v", c.values, l)
		}
	}
}

// P12.3: the pool is used up: Insert and Update are ErrFull and change nothing, until there is room again; Delete goes on.
func TestFull(t *testing.T) {
	w := newWorld(t, 1)
	one := w.begin()
	w.is(api.OK, w.createTable(one, "t", columns()))
	w.is(api.OK, w.createTable(one, "u", columns()))
	w.is(api.OK, w.createIndex(one, "i", "t", "a"))
	for n := range int64(10) {
		w.is(api.OK, w.insert(one, "t", values(n)...))
	}
	// There is room for 14 bytes, and these are 15.
	wide := []api.Value{samples.Number(99), samples.Text("xxxx"), samples.Truth(true)}
	for range 3 {
		w.is(api.ErrFull, w.insert(one, "t", wide...))
		w.is(api.ErrFull, w.insert(one, "u", api.Value{}, api.Value{}, api.Value{}))
		w.is(api.ErrFull, w.update(one, "t", w.holds(one, "t", 0, 1, 2, 3, 4, 5, 6, 7, 8, 9)[3], wide...))
	}
	w.shows([]int{10, 0}, []int{10}, 0)
	w.is(api.OK, w.insert(one, "t", samples.Number(10), samples.Text("xxx"), samples.Truth(true)))
	w.is(api.ErrFull, w.insert(one, "t", api.Value{}, api.Value{}, api.Value{}))
	l := w.holds(one, "t", 0, 1, 2, 3, 4, 5, 6, 7, 8, 9, 10)
	if l[10].ID != 11 {
		t.Errorf("an error has taken an ID: %v", l[10])
	}
	w.shows([]int{11, 0}, []int{11}, 0)
	w.is(api.OK, w.delete(one, "t", l[3]))
	w.is(api.ErrFull, w.update(one, "t", l[4], values(44)...))
	w.is(api.OK, w.commit(one))
	two := w.begin()
	w.is(api.ErrFull, w.update(two, "t", l[4], values(44)...))
	w.sweep()
	w.is(api.OK, w.update(two, "t", l[4], values(44)...))
	w.is(api.ErrFull, w.update(two, "t", l[5], values(55)...))
	w.holds(two, "t", 0, 1, 2, 44, 5, 6, 7, 8, 9, 10)
	w.is(api.OK, w.abort(two))
	w.sweep()
	three := w.begin()
	w.holds(three, "t", 0, 1, 2, 4, 5, 6, 7, 8, 9, 10)
	w.is(api.OK, w.update(three, "t", l[5], values(55)...))
}

// P12.1, P12.3: a store without pages has tables and indexes, and no rows.
func TestNoPages(t *testing.T) {
	w := filled(t, 0)
	one := w.begin()
	w.is(api.ErrFull, w.insert(one, "t", values(1)...))
	w.is(api.ErrArg, w.insert(one, "t"))
	w.holds(one, "t")
	w.finds(one, 2, nil, nil)
	w.is(api.ErrNone, w.update(one, "t", store.Row{ID: 1}, values(1)...))
	w.shows([]int{0}, []int{0}, 0)
}

// P12.3: of several errors the first.
func TestOrderOfErrors(t *testing.T) {
	w := newWorld(t, 1)
	one := w.begin()
	w.is(api.OK, w.createTable(one, "t", texts(1)))
	for range 7 {
		w.is(api.OK, w.insert(one, "t", samples.Text(strings.Repeat("a", 31))))
	}
	w.is(api.OK, w.commit(one))
	early, other := w.begin(), w.begin()
	l, _ := w.store.Scan(early, "t")
	w.is(api.OK, w.delete(other, "t", l[0]))
	w.is(api.OK, w.delete(early, "t", l[1]))
	wide, wrong := samples.Text(strings.Repeat("b", 60)), samples.Number(1)
	none := store.Row{ID: 1, At: l[1].At}
	w.is(api.ErrName, w.insert(early, "u", wrong))
	w.is(api.ErrName, w.update(early, "u", none, wrong))
	w.is(api.ErrName, w.delete(early, "u", none))
	w.is(api.ErrType, w.insert(early, "t", wrong))
	w.is(api.ErrFull, w.insert(early, "t", wide))
	for _, r := range []store.Row{none, l[0], l[1], l[2]} {
		w.is(api.ErrType, w.update(early, "t", r, wrong))
		w.is(api.ErrArg, w.update(early, "t", r))
		w.is(api.ErrForm, w.update(early, "t", r, api.Value{I: 1}))
	}
	w.is(api.ErrNone, w.update(early, "t", none, wide))
	w.is(api.ErrNone, w.update(early, "t", store.Row{ID: 2, At: l[0].At}, wide))
	w.is(api.ErrConflict, w.update(early, "t", l[0], wide))
	w.is(api.ErrState, w.update(early, "t", l[1], wide))
	w.is(api.ErrFull, w.update(early, "t", l[2], wide))
	w.is(api.OK, w.update(early, "t", l[2], api.Value{}))
	w.is(api.OK, w.commit(other))
	// Both not visible and ended by another one: the other one was first.
	late := w.begin()
	w.is(api.ErrConflict, w.update(late, "t", l[0], wide))
	w.is(api.ErrConflict, w.delete(late, "t", l[0]))
}

// P12.4: Used, Entries, Left and Book with tables and indexes that are made, dropped, aborted, pruned.
func TestCounts(t *testing.T) {
	w := newWorld(t, 9)
	w.shows(nil, nil, 9)
	one := w.begin()
	w.is(api.OK, w.createTable(one, "t", columns())) // 1
	w.is(api.OK, w.createTable(one, "u", columns())) // 2
	w.is(api.OK, w.createIndex(one, "ui", "u", "a")) // 3
	w.is(api.OK, w.createIndex(one, "ti", "t", "a")) // 4
	w.is(api.OK, w.createIndex(one, "uj", "u", "b")) // 5
	w.is(api.OK, w.insert(one, "u", values(1)...))
	w.is(api.OK, w.createIndex(one, "tj", "t", "c")) // 6
	w.is(api.OK, w.createTable(one, "v", columns())) // 7
	w.is(api.OK, w.insert(one, "t", values(2)...))
	w.is(api.OK, w.insert(one, "t", values(3)...))
	w.shows([]int{2, 1, 0}, []int{2, 2, 1, 1}, 7)
	w.is(api.OK, w.commit(one))
	two, three := w.begin(), w.begin()
	w.is(api.OK, w.createTable(two, "w", columns())) // 8
	w.is(api.OK, w.createIndex(two, "wi", "w", "a")) // 9
	w.is(api.OK, w.createIndex(two, "uk", "u", "a")) // 10
	w.is(api.OK, w.insert(two, "w", values(4)...))
	w.is(api.OK, w.dropTable(three, "u"))
	w.is(api.OK, w.dropIndex(three, "ti"))
	w.is(api.OK, w.insert(two, "u", values(5)...))
	w.shows([]int{2, 2, 0, 1}, []int{2, 2, 2, 2, 2, 1}, 6)
	w.is(api.OK, w.abort(two))
	w.shows([]int{2, 2, 0, 1}, []int{2, 2, 2, 2}, 6)
	w.is(api.OK, w.commit(three))
	four := w.begin()
	w.is(api.OK, w.insert(four, "t", values(6)...))
	w.shows([]int{3, 2, 0, 1}, []int{3, 3, 2, 2}, 6)
	tables, indexes := w.store.Book()
	var ids []uint64
	for _, x := range tables {
		ids = append(ids, x.ID)
	}
	for _, x := range indexes {
		ids = append(ids, x.ID)
	}
	if !slices.Equal(ids, []uint64{1, 2, 7, 8, 4, 6, 3, 5}) {
		t.Errorf("the book has %d", ids)
	}
	// u with three indexes, ti, w with its index.
	if n := w.prune(); n != 4+1+2 {
		t.Errorf("Prune = %d", n)
	}
	w.shows([]int{3, 0}, []int{3}, 8)
	if n := w.prune(); n != 0 {
		t.Errorf("Prune once more = %d", n)
	}
}

// P12.6: the horizon with none that run, and with several.
func TestHorizon(t *testing.T) {
	w := newWorld(t, 1)
	is := func(want uint64) {
		t.Helper()
		if got := w.store.Horizon(); got != want {
			t.Fatalf("Horizon = %d, want %d", got, want)
		}
	}
	is(1)
	one := w.begin()
	is(2)
	two := w.begin()
	is(1)
	w.commit(one)
	is(1)
	three := w.begin()
	is(1)
	w.abort(two)
	is(2)
	w.commit(three)
	is(4)
	four, five := w.begin(), w.begin()
	is(4)
	w.commit(five)
	is(5)
	w.begin()
	is(4)
	w.commit(four)
	is(4)
	w.commit(6)
	is(7)
}

// P12.6: Prune removes what nobody sees, with its pages and entries, and no other.
func TestPrune(t *testing.T) {
	w := filled(t, 4, 1, 2)
	if n := w.prune(); n != 0 {
		t.Errorf("Prune = %d", n)
	}
	reader, one, two := w.begin(), w.begin(), w.begin()
	w.is(api.OK, w.dropTable(one, "t"))
	w.is(api.OK, w.createTable(one, "t", columns()))
	w.is(api.OK, w.insert(one, "t", values(3)...))
	w.is(api.OK, w.createTable(two, "u", columns()))
	w.is(api.OK, w.insert(two, "u", values(4)...))
	w.is(api.OK, w.createIndex(two, "j", "u", "a"))
	for range 2 {
		if n := w.prune(); n != 0 {
			t.Errorf("Prune = %d while they run", n)
		}
	}
	w.shows([]int{2, 1, 1}, []int{2, 1}, 1)
	w.is(api.OK, w.commit(one))
	w.is(api.OK, w.abort(two))
	if n := w.prune(); n != 2 {
		t.Errorf("Prune = %d", n)
	}
	w.shows([]int{2, 1}, []int{2}, 2)
	w.holds(reader, "t", 1, 2)
	w.finds(reader, 2, nil, nil, 1, 2)
	late := w.begin()
	w.is(api.OK, w.abort(reader))
	// The reader was running when this one began.
	if n := w.prune(); n != 0 {
		t.Errorf("Prune = %d", n)
	}
	w.holds(late, "t", 3)
	w.is(api.OK, w.commit(late))
	if n := w.prune(); n != 2 {
		t.Errorf("Prune = %d", n)
	}
	w.shows([]int{1}, nil, 3)
	w.holds(w.begin(), "t", 3)
	for _, id := range []uint64{1, 2, 4, 5} {
		if n, l := w.store.Pages(id), w.store.Gather(id, 0); n != 0 || len(l) != 0 || w.unlink(id, at(0, 0)) != 0 || w.release(id, at(0, 0)) != 0 {
			t.Errorf("%d is still there: %d, %v", id, n, l)
		}
	}
}

// P12.6: what is dead, on each page, of a table by its ID.
func TestGather(t *testing.T) {
	w := newWorld(t, 4)
	one := w.begin()
	w.is(api.OK, w.createTable(one, "t", texts(3)))
	w.is(api.OK, w.createTable(one, "u", columns()))
	long := samples.Text(strings.Repeat("a", 60))
	for range 6 {
		w.is(api.OK, w.insert(one, "t", long, long, long))
	}
	w.is(api.OK, w.insert(one, "u", values(1)...))
	w.is(api.OK, w.commit(one))
	two, three := w.begin(), w.begin()
	l, _ := w.store.Scan(two, "t")
	w.is(api.OK, w.delete(two, "t", l[0]))
	w.is(api.OK, w.delete(two, "t", l[4]))
	w.is(api.OK, w.delete(two, "t", l[5]))
	w.is(api.OK, w.update(three, "t", l[3], api.Value{}, api.Value{}, api.Value{}))
	gathers := func(page int, want ...api.TID) {
		t.Helper()
		if got := w.store.Gather(1, page); !slices.Equal(got, want) {
			t.Fatalf("Gather(1, %d) = %v, want %v", page, got, want)
		}
	}
	for page := range 3 {
		gathers(page)
	}
	w.is(api.OK, w.commit(two))
	for page := range 3 {
		gathers(page)
	}
	w.is(api.OK, w.abort(three))
	gathers(0, at(0, 0), at(0, 2))
	gathers(1)
	gathers(2, at(2, 0), at(2, 1))
	for _, page := range []int{math.MinInt, -1, 3, 4, 255, 256, 1 << 32, math.MaxInt} {
		gathers(page)
	}
	for _, id := range []uint64{0, 2, 3, 257, 1 << 32, 1<<32 + 1, math.MaxUint64} {
		if l := w.store.Gather(id, 0); len(l) != 0 {
			t.Errorf("Gather(%d, 0) = %v", id, l)
		}
	}
	if n, m := w.store.Pages(1), w.store.Pages(2); n != 3 || m != 1 {
		t.Errorf("there are %d and %d pages", n, m)
	}
	for _, id := range []uint64{0, 3, 257, 1 << 32, 1<<32 + 1, math.MaxUint64} {
		if n := w.store.Pages(id); n != 0 {
			t.Errorf("Pages(%d) = %d", id, n)
		}
	}
}

// swept makes a store whose table t has a version that lives at 0/0, one that is dead at 0/1, none at 0/2, one that is ended for some at 0/3, one that lives at 0/4, one that was aborted at 0/5; j is of b.
func swept(t *testing.T) *world {
	t.Helper()
	w := filled(t, 2, 1, 2, 3, 4, 5)
	one := w.begin()
	l := w.holds(one, "t", 1, 2, 3, 4, 5)
	w.is(api.OK, w.createIndex(one, "j", "t", "b"))
	w.is(api.OK, w.delete(one, "t", l[2]))
	w.is(api.OK, w.commit(one))
	w.sweep()
	one = w.begin()
	w.is(api.OK, w.delete(one, "t", l[1]))
	w.is(api.OK, w.commit(one))
	reader, two, three := w.begin(), w.begin(), w.begin()
	w.holds(reader, "t", 1, 4, 5)
	w.is(api.OK, w.delete(two, "t", l[3]))
	w.is(api.OK, w.commit(two))
	// The place 0/2 is free: it is taken, and freed again.
	w.is(api.OK, w.insert(three, "t", values(6)...))
	w.is(api.OK, w.insert(three, "t", values(7)...))
	w.is(api.OK, w.abort(three))
	w.unlink(2, at(0, 2))
	w.unlink(3, at(0, 2))
	w.release(1, at(0, 2))
	w.shows([]int{5}, []int{5, 5}, 1)
	return w
}

// P12.6: Unlink removes the entries of dead versions, those of one index, and counts them.
func TestUnlink(t *testing.T) {
	w := swept(t)
	for _, l := range [][]api.TID{nil, {at(0, 0)}, {at(0, 2)}, {at(0, 3)}, {at(0, 4), at(0, 0)}, {at(1, 0), at(-1, -1), at(0, 6), at(0, -1), at(256, 1), at(0, 257), at(1<<32, 1), at(math.MaxInt, math.MinInt)}} {
		if n := w.unlink(2, l...); n != 0 {
			t.Errorf("Unlink(2, %v) = %d", l, n)
		}
	}
	for _, id := range []uint64{0, 1, 4, 258, 1<<32 + 2, math.MaxUint64} {
		if n := w.unlink(id, at(0, 1), at(0, 5)); n != 0 {
			t.Errorf("Unlink(%d) = %d", id, n)
		}
	}
	w.shows([]int{5}, []int{5, 5}, 1)
	if n := w.unlink(2, at(0, 1), at(0, 0), at(0, 1), at(0, 3), at(0, 1)); n != 1 {
		t.Errorf("Unlink(2) = %d", n)
	}
	w.shows([]int{5}, []int{4, 5}, 1)
	if n := w.unlink(2, at(0, 1)); n != 0 {
		t.Errorf("Unlink(2) once more = %d", n)
	}
	if n := w.unlink(3, at(0, 5), at(0, 4), at(0, 3), at(0, 2), at(0, 1), at(0, 0)); n != 2 {
		t.Errorf("Unlink(3) = %d", n)
	}
	w.shows([]int{5}, []int{4, 3}, 1)
	w.is(api.OK, w.commit(4))
	if n := w.unlink(3, at(0, 3), at(0, 5)); n != 1 {
		t.Errorf("Unlink(3) = %d", n)
	}
	w.finds(w.begin(), 3, nil, nil, 1, 5)
}

// P12.6: Release frees dead versions of a table, and counts them.
func TestRelease(t *testing.T) {
	w := swept(t)
	for _, l := range [][]api.TID{nil, {at(0, 0)}, {at(0, 2)}, {at(0, 3)}, {at(0, 4), at(0, 0)}, {at(1, 0), at(-1, -1), at(0, 6), at(0, -1), at(256, 1), at(0, 257), at(1<<32, 1), at(math.MaxInt, math.MinInt)}} {
		if n := w.release(1, l...); n != 0 {
			t.Errorf("Release(1, %v) = %d", l, n)
		}
	}
	for _, id := range []uint64{0, 2, 3, 4, 257, 1<<32 + 1, math.MaxUint64} {
		if n := w.release(id, at(0, 1), at(0, 5)); n != 0 {
			t.Errorf("Release(%d) = %d", id, n)
		}
	}
	w.shows([]int{5}, []int{5, 5}, 1)
	if n := w.release(1, at(0, 1), at(0, 0), at(0, 1), at(0, 3), at(0, 1)); n != 1 {
		t.Errorf("Release(1) = %d", n)
	}
	w.shows([]int{4}, []int{5, 5}, 1)
	w.is(api.OK, w.commit(4))
	if n := w.release(1, at(0, 5), at(0, 4), at(0, 3), at(0, 2), at(0, 1), at(0, 0)); n != 2 {
		t.Errorf("Release(1) = %d", n)
	}
	w.shows([]int{2}, []int{5, 5}, 1)
	if n := w.store.Pages(1); n != 1 {
		t.Errorf("there are %d pages", n)
	}
}

// P12.2, P12.5: a place that is released ahead of its entries is taken again, by versions with another key, and with the same.
func TestReleasedAheadOfEntries(t *testing.T) {
	w := filled(t, 1, 1, 2, 3)
	one := w.begin()
	w.is(api.OK, w.delete(one, "t", w.holds(one, "t", 1, 2, 3)[1]))
	w.is(api.OK, w.commit(one))
	if n := w.release(1, at(0, 1)); n != 1 {
		t.Fatal(n)
	}
	w.shows([]int{2}, []int{3}, 0)
	// There is no version any more, so the place has no effect.
	if n := w.unlink(2, at(0, 1)); n != 0 {
		t.Errorf("Unlink = %d", n)
	}
	two := w.begin()
	w.is(api.OK, w.insert(two, "t", values(7)...))
	w.shows([]int{3}, []int{4}, 0)
	w.finds(two, 2, nil, nil, 1, 3, 7)
	w.finds(two, 2, keyOf(samples.Number(2)), keyOf(samples.Number(3)))
	w.is(api.OK, w.abort(two))
	if n := w.release(1, at(0, 1)); n != 1 {
		t.Fatal(n)
	}
	three := w.begin()
	w.is(api.OK, w.insert(three, "t", values(2)...))
	w.shows([]int{3}, []int{4}, 0)
	w.finds(three, 2, nil, nil, 1, 3, 2)
	w.finds(three, 2, keyOf(samples.Number(7)), nil)
	w.is(api.OK, w.delete(three, "t", w.holds(three, "t", 1, 3, 2)[2]))
	w.is(api.OK, w.commit(three))
	if n := w.unlink(2, at(0, 1)); n != 2 {
		t.Errorf("Unlink = %d", n)
	}
	w.shows([]int{3}, []int{2}, 0)
}

// P12.6: the entries of an index whose maker aborted stay as they are until it is pruned.
func TestAbortedIndex(t *testing.T) {
	w := filled(t, 2, 1)
	one := w.begin()
	w.is(api.OK, w.createIndex(one, "j", "t", "b"))
	w.is(api.OK, w.insert(one, "t", values(2)...))
	w.is(api.OK, w.abort(one))
	two := w.begin()
	w.is(api.OK, w.insert(two, "t", values(3)...))
	w.is(api.OK, w.abort(two))
	w.shows([]int{3}, []int{3}, 1)
	if n := w.unlink(3, at(0, 0), at(0, 1), at(0, 2)); n != 1 {
		t.Errorf("Unlink = %d", n)
	}
	if n := w.prune(); n != 1 {
		t.Errorf("Prune = %d", n)
	}
	if n := w.unlink(2, at(0, 0), at(0, 1), at(0, 2)); n != 2 {
		t.Errorf("Unlink = %d", n)
	}
}

// P12.3: IDs of rows rise, for all tables together, whatever becomes of the rows.
func TestIDs(t *testing.T) {
	w := filled(t, 9, 1, 2)
	xid := w.begin()
	w.is(api.OK, w.createTable(xid, "u", columns()))
	next := uint64(3)
	adds := func(table string) store.Row {
		t.Helper()
		w.is(api.OK, w.insert(xid, table, values(int64(next))...))
		l, _ := w.store.Scan(xid, table)
		if r := l[len(l)-1]; r.ID != next || r.Values[0].I != int64(next) {
			t.Fatalf("the row is %v, want the ID %d", r, next)
		}
		next++
		return l[len(l)-1]
	}
	adds("u")
	adds("t")
	w.is(api.OK, w.delete(xid, "t", adds("t")))
	r := adds("u")
	w.is(api.OK, w.update(xid, "u", r, values(60)...))
	adds("u")
	w.is(api.OK, w.abort(xid))
	w.sweep()
	w.shows([]int{2}, []int{2}, 8)
	xid = w.begin()
	adds("t")
	w.is(api.ErrType, w.insert(xid, "t", samples.Text("a"), api.Value{}, api.Value{}))
	w.is(api.ErrName, w.insert(xid, "u", values(1)...))
	w.is(api.ErrNone, w.insert(99, "t", values(1)...))
	adds("t")
	w.is(api.OK, w.dropTable(xid, "t"))
	w.is(api.OK, w.createTable(xid, "t", columns()))
	adds("t")
	w.is(api.OK, w.commit(xid))
	w.sweep()
	xid = w.begin()
	adds("t")
}

// P12.5: what a transaction did and aborted, all sorts of it, nobody sees, nor is anything left of it behind a sweep.
func TestAborted(t *testing.T) {
	w := filled(t, 4, 1, 2, 3)
	early, one := w.begin(), w.begin()
	l := w.holds(one, "t", 1, 2, 3)
	w.is(api.OK, w.createTable(one, "u", columns()))
	w.is(api.OK, w.insert(one, "u", values(9)...))
	w.is(api.OK, w.createIndex(one, "j", "t", "a"))
	w.is(api.OK, w.dropIndex(one, "i"))
	w.is(api.OK, w.update(one, "t", l[0], values(10)...))
	w.is(api.OK, w.delete(one, "t", l[2]))
	w.is(api.OK, w.insert(one, "t", values(4)...))
	w.is(api.OK, w.abort(one))
	late := w.begin()
	for _, xid := range []uint64{early, late} {
		w.holds(xid, "t", 1, 2, 3)
		if x := w.only(xid, "t"); x.ID != 2 {
			t.Errorf("%d sees %v", xid, x)
		}
		w.finds(xid, 2, nil, nil, 1, 2, 3)
	}
	if n := w.sweep(); n != 2 {
		t.Errorf("%d versions were swept", n)
	}
	w.shows([]int{3}, []int{3}, 3)
	w.holds(early, "t", 1, 2, 3)
	w.is(api.OK, w.delete(early, "t", l[2]))
	w.is(api.OK, w.update(late, "t", l[0], values(11)...))
}

// P12.1 to P12.6: a store that isn't there.
func TestNil(t *testing.T) {
	var s *store.Store
	errors := []api.Errno{
		s.Commit(1), s.Abort(1), s.Commit(0), s.CreateTable(1, "t", columns()), s.CreateTable(1, "", nil), s.DropTable(1, "t"), s.CreateIndex(1, "i", "t", "a"), s.DropIndex(1, "i"),
		s.Insert(1, "t", values(1)), s.Insert(1, "t", nil), s.Update(1, "t", store.Row{}, values(1)), s.Delete(1, "t", store.Row{}),
	}
	for i, e := range errors {
		if e != api.ErrNone {
			t.Errorf("call %d = %d", i, e)
		}
	}
	if xid, e := s.Begin(); xid != 0 || e != api.ErrNone {
		t.Errorf("Begin = %d, %d", xid, e)
	}
	if x, ok := s.Table(1, "t"); ok || !sameTable(x, book.Table{}) {
		t.Errorf("Table = %v, %v", x, ok)
	}
	if l, e := s.Scan(1, "t"); l != nil || e != api.ErrNone {
		t.Errorf("Scan = %v, %d", l, e)
	}
	if l, e := s.Seek(1, 1, nil, nil); l != nil || e != api.ErrNone {
		t.Errorf("Seek = %v, %d", l, e)
	}
	tables, indexes := s.Book()
	if n := len(s.Indexes(1, "t")) + len(s.Running()) + len(s.Used()) + len(s.Entries()) + len(s.Gather(1, 0)) + len(tables) + len(indexes); n != 0 {
		t.Errorf("there is something in nothing: %d", n)
	}
	places := []api.TID{at(0, 0)}
	if s.Left() != 0 || s.Horizon() != 0 || s.Prune() != 0 || s.Unlink(1, places) != 0 || s.Release(1, places) != 0 || s.Pages(1) != 0 {
		t.Error("there is something in nothing")
	}
}

// P12.1: two stores know nothing of each other.
func TestTwoStores(t *testing.T) {
	a, b := filled(t, 2, 1, 2), newWorld(t, 2)
	one := b.begin()
	b.is(api.ErrName, b.insert(one, "t", values(1)...))
	b.is(api.OK, b.createTable(one, "t", columns()))
	b.is(api.OK, b.insert(one, "t", values(7)...))
	b.is(api.OK, b.commit(one))
	if l := b.holds(b.begin(), "t", 7); l[0].ID != 1 {
		t.Errorf("the row is %v", l)
	}
	a.check()
	a.holds(a.begin(), "t", 1, 2)
}

// spoil overwrites a list, and the memory behind it.
func spoil[T any](l []T, with T) {
	l = l[:cap(l)]
	for i := range l {
		l[i] = with
	}
}

// P12.1 to P12.6: arguments are neither changed nor kept, nor is the memory behind them.
func TestArguments(t *testing.T) {
	w := newWorld(t, 2)
	one := w.begin()
	cols := append(columns(), api.Column{Name: "spare", Kind: 9})[:3]
	w.is(api.OK, w.createTable(one, "t", cols))
	w.is(api.OK, w.createIndex(one, "i", "t", "a"))
	l := append(values(1), api.Value{Kind: 9})[:3]
	w.is(api.OK, w.insert(one, "t", l...))
	r := w.holds(one, "t", 1)[0]
	m := append(values(2), api.Value{Kind: 9})[:3]
	r.Values = l
	w.is(api.OK, w.update(one, "t", r, m...))
	from, to := append(keyOf(samples.Number(1)), 7, 8)[:9], append(keyOf(samples.Number(3)), 7, 8)[:9]
	w.seek(one, 2, from, to)
	places := append([]api.TID{}, at(0, 1), at(0, 0), at(9, 9), at(8, 8))[:3]
	w.unlink(2, places...)
	w.release(1, places...)
	if !slices.Equal(cols[:4], append(columns(), api.Column{Name: "spare", Kind: 9})) {
		t.Errorf("the columns have become %v", cols[:4])
	}
	if !slices.Equal(l[:4], append(values(1), api.Value{Kind: 9})) || !slices.Equal(m[:4], append(values(2), api.Value{Kind: 9})) {
		t.Errorf("the values have become %v, %v", l[:4], m[:4])
	}
	if !slices.Equal(from[:11], append(keyOf(samples.Number(1)), 7, 8)) || !slices.Equal(to[:11], append(keyOf(samples.Number(3)), 7, 8)) {
		t.Errorf("the keys have become %x, %x", from[:11], to[:11])
	}
	if !slices.Equal(places[:4], []api.TID{at(0, 1), at(0, 0), at(9, 9), at(8, 8)}) {
		t.Errorf("the places have become %v", places[:4])
	}
	spoil(cols, api.Column{Name: "z", Kind: api.Bool})
	spoil(l, samples.Text("spoilt"))
	spoil(m, samples.Text("spoilt"))
	samples.Fill(from)
	samples.Fill(to)
	spoil(places, at(0, 0))
	if x, _ := w.store.Table(one, "t"); !slices.Equal(x.Columns, columns()) {
		t.Errorf("the columns are kept: %v", x)
	}
	if got := w.holds(one, "t", 2); !slices.Equal(got[0].Values, values(2)) {
		t.Errorf("the values are kept: %v", got)
	}
	w.is(api.OK, w.store.Insert(one, "t", values(3)))
	w.holds(one, "t", 2, 3)
}

// P12.1 to P12.6: results share no memory with the store, nor with each other.
func TestResults(t *testing.T) {
	w := swept(t)
	one := w.begin()
	l, again := w.holds(one, "t", 1, 5), w.holds(one, "t", 1, 5)
	found, _ := w.store.Seek(one, 2, nil, nil)
	other, _ := w.store.Seek(one, 2, nil, nil)
	for _, r := range []store.Row{l[0], found[1]} {
		spoil(r.Values, samples.Text("spoilt"))
	}
	if !slices.Equal(l[1].Values, values(5)) || !slices.Equal(found[0].Values, values(1)) {
		t.Errorf("the values of two rows are one list: %v, %v", l, found)
	}
	spoil(l, store.Row{})
	spoil(found, store.Row{})
	if !same(again, other) || len(again) != 2 || !slices.Equal(again[1].Values, values(5)) {
		t.Errorf("two lists of rows are one: %v, %v", again, other)
	}
	tables, indexes := w.store.Book()
	x, _ := w.store.Table(one, "t")
	spoil(x.Columns, api.Column{Name: "spoilt"})
	spoil(tables[0].Columns, api.Column{Name: "spoilt"})
	spoil(tables, book.Table{})
	spoil(indexes, book.Index{})
	spoil(w.store.Indexes(one, "t"), book.Index{})
	spoil(w.store.Running(), 99)
	spoil(w.store.Used(), 99)
	spoil(w.store.Entries(), 99)
	gathered, twice := w.store.Gather(1, 0), w.store.Gather(1, 0)
	spoil(gathered, at(9, 9))
	if !slices.Equal(twice, []api.TID{at(0, 1), at(0, 5)}) {
		t.Errorf("two lists of places are one: %v", twice)
	}
	w.check()
	w.is(api.OK, w.update(one, "t", again[0], values(11)...))
	w.is(api.OK, w.commit(one))
	w.is(api.OK, w.commit(4))
	w.sweep()
	w.is(api.OK, w.insert(w.begin(), "t", values(12)...))
	if again[0].Values[0].I != 1 || again[1].ID != 5 {
		t.Errorf("a result changes with the store: %v", again)
	}
}
