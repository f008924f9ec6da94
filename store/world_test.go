package store_test

import (
	"maps"
	"math"
	"slices"
	"testing"

	"lapidary/api"
	"lapidary/book"
	"lapidary/samples"
	"lapidary/store"
)

// world is a store, the model of it, and the names and IDs that are asked for behind each call.
type world struct {
	*testing.T
	*model
	store *store.Store
	names []string
	gone  []uint64 // IDs that were pruned
}

// newWorld makes a store with so many pages.
func newWorld(t *testing.T, pages int) *world {
	t.Helper()
	s, e := store.New(pages)
	if e != api.OK {
		t.Fatalf("New(%d) = %d", pages, e)
	}
	return &world{T: t, model: newModel(pages), store: s, names: []string{"", "nobody"}}
}

// filled makes a store in which t has a committed row for each number, by one of a, b and c; its index i is of a.
func filled(t *testing.T, pages int, numbers ...int64) *world {
	t.Helper()
	w := newWorld(t, pages)
	one := w.begin()
	w.is(api.OK, w.createTable(one, "t", columns()))
	w.is(api.OK, w.createIndex(one, "i", "t", "a"))
	for _, n := range numbers {
		w.is(api.OK, w.insert(one, "t", values(n)...))
	}
	w.is(api.OK, w.commit(one))
	return w
}

// columns are those of the tables of most tests.
func columns() []api.Column {
	return []api.Column{{Name: "a", Kind: api.Int}, {Name: "b", Kind: api.Text}, {Name: "c", Kind: api.Bool}}
}

// values are a row of these columns.
func values(n int64) []api.Value {
	return []api.Value{samples.Number(n), samples.Text("x"), samples.Truth(n%2 == 0)}
}

// is holds an error against the one that must be.
func (w *world) is(want, got api.Errno) {
	w.Helper()
	if got != want {
		w.Fatalf("the error is %d, want %d", got, want)
	}
}

// told holds the error of a call against the model's, and then all that the store shows.
func (w *world) told(what string, got, want api.Errno) api.Errno {
	w.Helper()
	if got != want {
		w.Fatalf("%s = %d, want %d", what, got, want)
	}
	w.check()
	return got
}

// begin starts a transaction.
func (w *world) begin() uint64 {
	w.Helper()
	xid, e := w.store.Begin()
	want, e2 := w.model.begin()
	if xid != want {
		w.Fatalf("Begin = %d, want %d", xid, want)
	}
	w.told("Begin", e, e2)
	return xid
}

// commit ends a transaction whose changes last.
func (w *world) commit(xid uint64) api.Errno {
	w.Helper()
	return w.told("Commit", w.store.Commit(xid), w.end(xid, true))
}

// abort ends a transaction whose changes don't last.
func (w *world) abort(xid uint64) api.Errno {
	w.Helper()
	return w.told("Abort", w.store.Abort(xid), w.end(xid, false))
}

// name has a name asked for from now on.
func (w *world) name(name string) {
	if !slices.Contains(w.names, name) {
		w.names = append(w.names, name)
	}
}

// createTable makes a table.
func (w *world) createTable(xid uint64, name string, columns []api.Column) api.Errno {
	w.Helper()
	w.name(name)
	return w.told("CreateTable", w.store.CreateTable(xid, name, columns), w.model.createTable(xid, name, columns))
}

// dropTable drops one.
func (w *world) dropTable(xid uint64, name string) api.Errno {
	w.Helper()
	return w.told("DropTable", w.store.DropTable(xid, name), w.drop(xid, false, name))
}

// createIndex makes an index.
func (w *world) createIndex(xid uint64, name, table, column string) api.Errno {
	w.Helper()
	w.name(name)
	return w.told("CreateIndex", w.store.CreateIndex(xid, name, table, column), w.model.createIndex(xid, name, table, column))
}

// dropIndex drops one.
func (w *world) dropIndex(xid uint64, name string) api.Errno {
	w.Helper()
	return w.told("DropIndex", w.store.DropIndex(xid, name), w.drop(xid, true, name))
}

// insert inserts a row.
func (w *world) insert(xid uint64, table string, l ...api.Value) api.Errno {
	w.Helper()
	return w.told("Insert", w.store.Insert(xid, table, l), w.model.insert(xid, table, l))
}

// update changes a row.
func (w *world) update(xid uint64, table string, r store.Row, l ...api.Value) api.Errno {
	w.Helper()
	return w.told("Update", w.store.Update(xid, table, r, l), w.model.update(xid, table, r, l))
}

// delete removes a row.
func (w *world) delete(xid uint64, table string, r store.Row) api.Errno {
	w.Helper()
	return w.told("Delete", w.store.Delete(xid, table, r), w.model.delete(xid, table, r))
}

// counted holds what a call has counted against the model.
func (w *world) counted(what string, got, want int) int {
	w.Helper()
	return int(w.told(what, api.Errno(got), api.Errno(want)))
}

// prune removes what is dead of the book.
func (w *world) prune() int {
	w.Helper()
	tables, indexes := w.store.Book()
	n := w.counted("Prune", w.store.Prune(), w.model.prune())
	for _, t := range tables {
		if w.sheets[t.ID] == nil {
			w.gone = append(w.gone, t.ID)
		}
	}
	for _, x := range indexes {
		if w.lists[x.ID] == nil {
			w.gone = append(w.gone, x.ID)
		}
	}
	return n
}

// unlink removes entries of an index.
func (w *world) unlink(index uint64, l ...api.TID) int {
	w.Helper()
	return w.counted("Unlink", w.store.Unlink(index, l), w.model.unlink(index, l))
}

// release frees versions of a table.
func (w *world) release(table uint64, l ...api.TID) int {
	w.Helper()
	return w.counted("Release", w.store.Release(table, l), w.model.release(table, l))
}

// sweep removes all that is dead, the entries ahead of the versions, and counts the versions.
func (w *world) sweep() int {
	w.Helper()
	w.prune()
	n := 0
	tables, indexes := w.store.Book()
	for _, t := range tables {
		var l []api.TID
		for page := range w.store.Pages(t.ID) {
			l = append(l, w.store.Gather(t.ID, page)...)
		}
		for _, x := range indexes {
			if x.Table == t.ID {
				w.unlink(x.ID, l...)
			}
		}
		n += w.release(t.ID, l...)
	}
	return n
}

// at is a place.
func at(page, slot int) api.TID { return api.TID{Page: page, Slot: slot} }

// same tells whether two lists of rows are.
func same(a, b []store.Row) bool {
	return slices.EqualFunc(a, b, func(a, b store.Row) bool {
		return a.ID == b.ID && a.At == b.At && slices.Equal(a.Values, b.Values)
	})
}

// sameTable tells whether two tables are.
func sameTable(a, b book.Table) bool {
	return a.ID == b.ID && a.Name == b.Name && a.Xmin == b.Xmin && a.Xmax == b.Xmax && slices.Equal(a.Columns, b.Columns)
}

// holds holds the first values of the rows of a table against numbers.
func (w *world) holds(xid uint64, table string, numbers ...int64) []store.Row {
	w.Helper()
	l, e := w.store.Scan(xid, table)
	w.is(api.OK, e)
	var got []int64
	for _, r := range l {
		got = append(got, r.Values[0].I)
	}
	if !slices.Equal(got, numbers) {
		w.Fatalf("%d sees %d in %s, want %d", xid, got, table, numbers)
	}
	return l
}

// finds holds the first values of the rows of an index against numbers.
func (w *world) finds(xid, index uint64, from, to []byte, numbers ...int64) {
	w.Helper()
	l, e := w.seek(xid, index, from, to)
	w.is(api.OK, e)
	var got []int64
	for _, r := range l {
		got = append(got, r.Values[0].I)
	}
	if !slices.Equal(got, numbers) {
		w.Fatalf("%d finds %d by %d from %x to %x, want %d", xid, got, index, from, to, numbers)
	}
}

// seek holds what Seek answers against the model.
func (w *world) seek(xid, index uint64, from, to []byte) ([]store.Row, api.Errno) {
	w.Helper()
	l, e := w.store.Seek(xid, index, from, to)
	if l2, e2 := w.model.seek(xid, index, from, to); e != e2 || !same(l, l2) {
		w.Fatalf("Seek(%d, %d, %x, %x) = %v, %d, want %v, %d", xid, index, from, to, l, e, l2, e2)
	}
	return l, e
}

// only holds the one index of a table that a transaction sees.
func (w *world) only(xid uint64, table string) book.Index {
	w.Helper()
	l := w.store.Indexes(xid, table)
	if len(l) != 1 {
		w.Fatalf("%d sees %v of %s", xid, l, table)
	}
	return l[0]
}

// shows holds Used, Entries and Left against numbers.
func (w *world) shows(used, entries []int, left int) {
	w.Helper()
	if u, e, l := w.store.Used(), w.store.Entries(), w.store.Left(); !slices.Equal(u, used) || !slices.Equal(e, entries) || l != left {
		w.Fatalf("there are %d versions, %d entries, %d pages left, want %d, %d, %d", u, e, l, used, entries, left)
	}
}

// check holds all that the store shows against the model.
func (w *world) check() {
	w.Helper()
	w.checkWhole()
	xids := append(w.log.All(), 0, w.log.Next(), w.log.Next()-1, w.log.Next()/2, math.MaxUint64)
	for _, xid := range xids {
		for _, name := range w.names {
			w.checkName(xid, name)
		}
		for _, id := range w.ids() {
			w.seek(xid, id, nil, nil)
		}
	}
	for _, id := range w.ids() {
		w.checkPages(id)
	}
}

// ids lists those that there are, and some that there aren't, in order, so that a script goes the same way each time.
func (w *world) ids() []uint64 {
	l := slices.Concat(slices.Collect(maps.Keys(w.sheets)), slices.Collect(maps.Keys(w.lists)))
	slices.Sort(l)
	if len(l) > 0 {
		l = append(l, l[len(l)-1]+1)
	}
	return append(append(l, 0, math.MaxUint64), w.gone[max(0, len(w.gone)-3):]...)
}

// checkWhole holds what hangs on no transaction against the model.
func (w *world) checkWhole() {
	w.Helper()
	if got, want := w.store.Running(), w.log.All(); !slices.Equal(got, want) {
		w.Fatalf("Running = %d, want %d", got, want)
	}
	if got, want := w.store.Horizon(), w.horizon(); got != want {
		w.Fatalf("Horizon = %d, want %d", got, want)
	}
	var used, entries []int
	var indexes []book.Index
	tables := w.book.Tables()
	for _, t := range tables {
		used = append(used, len(w.sheets[t.ID].all()))
		for _, x := range w.book.Keep(w.log, t.ID) {
			indexes = append(indexes, x)
			entries = append(entries, len(w.lists[x.ID].entries))
		}
	}
	w.shows(used, entries, w.left)
	if gotTables, gotIndexes := w.store.Book(); !slices.EqualFunc(gotTables, tables, sameTable) || !slices.Equal(gotIndexes, indexes) {
		w.Fatalf("Book = %v, %v, want %v, %v", gotTables, gotIndexes, tables, indexes)
	}
}

// checkName holds what a transaction sees by a name against the model.
func (w *world) checkName(xid uint64, name string) {
	w.Helper()
	got, ok := w.store.Table(xid, name)
	want, ok2 := w.table(xid, name)
	if ok != ok2 || !sameTable(got, want) {
		w.Fatalf("Table(%d, %q) = %v, %v, want %v, %v", xid, name, got, ok, want, ok2)
	}
	if got, want := w.store.Indexes(xid, name), w.indexes(xid, name); !slices.Equal(got, want) {
		w.Fatalf("Indexes(%d, %q) = %v, want %v", xid, name, got, want)
	}
	l, e := w.store.Scan(xid, name)
	if l2, e2 := w.scan(xid, name); e != e2 || !same(l, l2) {
		w.Fatalf("Scan(%d, %q) = %v, %d, want %v, %d", xid, name, l, e, l2, e2)
	}
}

// checkPages holds the pages of a table, and what is dead there, against the model.
func (w *world) checkPages(id uint64) {
	w.Helper()
	pages := 0
	if s := w.sheets[id]; s != nil {
		pages = len(s.pages)
	}
	if got := w.store.Pages(id); got != pages {
		w.Fatalf("Pages(%d) = %d, want %d", id, got, pages)
	}
	for page := -1; page <= pages; page++ {
		if got, want := w.store.Gather(id, page), w.gather(id, page); !slices.Equal(got, want) {
			w.Fatalf("Gather(%d, %d) = %v, want %v", id, page, got, want)
		}
	}
}
