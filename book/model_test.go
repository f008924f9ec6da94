package book_test

import (
	"math"
	"slices"
	"strings"
	"testing"

	"lapidary/api"
	"lapidary/book"
	"lapidary/clog"
	"lapidary/snap"
)

// thing is an entry as the document has it: a table, or an index of one.
type thing struct {
	id         uint64
	name       string
	xmin, xmax uint64
	columns    []api.Column
	of         *thing
	column     int
}

// model is a plain list of entries that were not pruned, and the log that their stamps hang on.
type model struct {
	log  *clog.Log
	all  []*thing
	last uint64
}

// sees tells whether a snapshot must see a transaction.
func (m *model) sees(s snap.Snapshot, xid uint64) bool {
	return xid == s.Own || xid < s.Xmax && !slices.Contains(s.Running, xid) && m.log.State(xid) == clog.Committed
}

// visible tells whether a snapshot must see an entry.
func (m *model) visible(s snap.Snapshot, x *thing) bool {
	if !m.sees(s, x.xmin) || x.xmax != 0 && m.sees(s, x.xmax) {
		return false
	}
	return x.of == nil || m.visible(s, x.of)
}

// alive tells whether an entry is.
func (m *model) alive(x *thing) bool {
	if m.log.State(x.xmin) == clog.Aborted || m.log.State(x.xmax) == clog.Committed {
		return false
	}
	return x.of == nil || m.alive(x.of)
}

// dead tells whether Prune must remove an entry.
func (m *model) dead(x *thing, horizon uint64) bool {
	if m.log.State(x.xmin) == clog.Aborted || m.log.State(x.xmax) == clog.Committed && x.xmax < horizon {
		return true
	}
	return x.of != nil && m.dead(x.of, horizon)
}

// find is the entry of a kind with the least ID that has a name and is visible.
func (m *model) find(s snap.Snapshot, index bool, name string) *thing {
	for _, x := range m.all {
		if (x.of != nil) == index && x.name == name && m.visible(s, x) {
			return x
		}
	}
	return nil
}

// count is how many of a kind there are.
func (m *model) count(index bool) int {
	n := 0
	for _, x := range m.all {
		if (x.of != nil) == index {
			n++
		}
	}
	return n
}

// add makes an entry, unless its name is taken or the book is full of its kind.
func (m *model) add(s snap.Snapshot, x thing, most int) (*thing, api.Errno) {
	e := api.OK
	for _, y := range m.all {
		switch {
		case y.name != x.name:
		case m.visible(s, y):
			e = api.ErrExists
		case e == api.OK && m.alive(y) && !(y.xmax != 0 && y.xmax == s.Own):
			e = api.ErrConflict
		}
	}
	if e == api.OK && m.count(x.of != nil) >= most {
		e = api.ErrFull
	}
	if e != api.OK {
		return nil, e
	}
	m.last++
	x.id, x.xmin = m.last, s.Own
	m.all = append(m.all, &x)
	return &x, api.OK
}

// named tells whether a text is a name.
func named(s string) bool {
	letters := "abcdefghijklmnopqrstuvwxyz_"
	if s == "" || len(s) > api.MaxName || !strings.Contains(letters, s[:1]) {
		return false
	}
	return strings.Trim(s, letters+"0123456789") == ""
}

// formed tells whether columns are those of a table.
func formed(columns []api.Column) bool {
	names := map[string]int{}
	for _, c := range columns {
		if !named(c.Name) || c.Kind != api.Int && c.Kind != api.Text && c.Kind != api.Bool {
			return false
		}
		names[c.Name]++
	}
	return len(columns) > 0 && len(columns) <= api.MaxColumns && len(names) == len(columns)
}

// createTable is what CreateTable must answer and do.
func (m *model) createTable(s snap.Snapshot, name string, columns []api.Column) (uint64, api.Errno) {
	if !named(name) || !formed(columns) {
		return 0, api.ErrForm
	}
	x, e := m.add(s, thing{name: name, columns: slices.Clone(columns)}, api.MaxTables)
	if e != api.OK {
		return 0, e
	}
	return x.id, e
}

// createIndex is what CreateIndex must answer and do.
func (m *model) createIndex(s snap.Snapshot, name, table, column string) (book.Index, api.Errno) {
	if !named(name) {
		return book.Index{}, api.ErrForm
	}
	t := m.find(s, false, table)
	if t == nil {
		return book.Index{}, api.ErrName
	}
	for i, c := range t.columns {
		if c.Name != column {
			continue
		}
		x, e := m.add(s, thing{name: name, of: t, column: i}, api.MaxIndexes)
		if e != api.OK {
			return book.Index{}, e
		}
		return x.index(), e
	}
	return book.Index{}, api.ErrName
}

// drop is what DropTable and DropIndex must answer and do.
func (m *model) drop(s snap.Snapshot, index bool, name string) (uint64, api.Errno) {
	first := m.find(s, index, name)
	if first == nil {
		return 0, api.ErrName
	}
	var ends []*thing
	for _, x := range m.all {
		if x != first && x.of != first || !m.visible(s, x) {
			continue
		}
		if x.xmax != 0 && m.log.State(x.xmax) != clog.Aborted && x.xmax != s.Own {
			return 0, api.ErrConflict
		}
		ends = append(ends, x)
	}
	for _, x := range ends {
		x.xmax = s.Own
	}
	return first.id, api.OK
}

// prune is what Prune must answer and do.
func (m *model) prune(horizon uint64) (tables, indexes []uint64) {
	var left []*thing
	for _, x := range m.all {
		switch {
		case !m.dead(x, horizon):
			left = append(left, x)
		case x.of == nil:
			tables = append(tables, x.id)
		default:
			indexes = append(indexes, x.id)
		}
	}
	m.all = left
	return tables, indexes
}

// table is an entry as Table and Tables must show it.
func (x *thing) table() book.Table {
	return book.Table{ID: x.id, Name: x.name, Columns: x.columns, Xmin: x.xmin, Xmax: x.xmax}
}

// index is an entry as Indexes and Keep must show it.
func (x *thing) index() book.Index {
	return book.Index{ID: x.id, Name: x.name, Table: x.of.id, Column: x.column, Xmin: x.xmin, Xmax: x.xmax}
}

// indexes lists those of a table for which a condition holds.
func (m *model) indexes(table uint64, holds func(x *thing) bool) []book.Index {
	var l []book.Index
	for _, x := range m.all {
		if x.of != nil && x.of.id == table && holds(x) {
			l = append(l, x.index())
		}
	}
	return l
}

// same tells whether two tables are.
func same(a, b book.Table) bool {
	return a.ID == b.ID && a.Name == b.Name && a.Xmin == b.Xmin && a.Xmax == b.Xmax && slices.Equal(a.Columns, b.Columns)
}

// world is a book with its log, the model of it, and the snapshots and names that are asked for behind each call.
type world struct {
	*testing.T
	model
	book  *book.Book
	snaps []snap.Snapshot
	names map[string]struct{}
}

// newWorld makes a book without entries and a log without transactions.
func newWorld(t *testing.T) *world {
	t.Helper()
	l, e := clog.New(1)
	if e != api.OK {
		t.Fatalf("clog.New = %d", e)
	}
	return &world{T: t, model: model{log: l}, book: book.New(), names: map[string]struct{}{"": {}, "nobody": {}}}
}

// begin starts a transaction, and takes its snapshot.
func (w *world) begin() snap.Snapshot {
	w.Helper()
	own, e := w.log.Begin()
	if e != api.OK {
		w.Fatalf("Begin = %d", e)
	}
	s := snap.Take(w.log, own)
	w.snaps = append(w.snaps, s)
	return s
}

// commit ends the transaction of s, whose changes last.
func (w *world) commit(s snap.Snapshot) {
	w.Helper()
	if e := w.log.Commit(s.Own); e != api.OK {
		w.Fatalf("Commit(%d) = %d", s.Own, e)
	}
	w.check()
}

// abort ends the transaction of s, whose changes don't last.
func (w *world) abort(s snap.Snapshot) {
	w.Helper()
	if e := w.log.Abort(s.Own); e != api.OK {
		w.Fatalf("Abort(%d) = %d", s.Own, e)
	}
	w.check()
}

// ask holds what CreateTable answers against the model.
func (w *world) ask(s snap.Snapshot, name string, columns []api.Column) (uint64, api.Errno) {
	w.Helper()
	id, e := w.book.CreateTable(w.log, s, name, columns)
	if id2, e2 := w.createTable(s, name, columns); id != id2 || e != e2 {
		w.Fatalf("CreateTable(%v, %q, %v) = %d, %d, want %d, %d", s, name, columns, id, e, id2, e2)
	}
	w.names[name] = struct{}{}
	w.check()
	return id, e
}

// askIndex holds what CreateIndex answers against the model.
func (w *world) askIndex(s snap.Snapshot, name, table, column string) (book.Index, api.Errno) {
	w.Helper()
	x, e := w.book.CreateIndex(w.log, s, name, table, column)
	if x2, e2 := w.createIndex(s, name, table, column); x != x2 || e != e2 {
		w.Fatalf("CreateIndex(%v, %q, %q, %q) = %v, %d, want %v, %d", s, name, table, column, x, e, x2, e2)
	}
	w.names[name] = struct{}{}
	w.check()
	return x, e
}

// askDrop holds what DropTable or DropIndex answers against the model.
func (w *world) askDrop(s snap.Snapshot, index bool, name string) (uint64, api.Errno) {
	w.Helper()
	call := w.book.DropTable
	if index {
		call = w.book.DropIndex
	}
	id, e := call(w.log, s, name)
	if id2, e2 := w.drop(s, index, name); id != id2 || e != e2 {
		w.Fatalf("to drop %q (an index: %v) for %v = %d, %d, want %d, %d", name, index, s, id, e, id2, e2)
	}
	w.check()
	return id, e
}

// askPrune holds what Prune answers against the model.
func (w *world) askPrune(horizon uint64) (tables, indexes []uint64) {
	w.Helper()
	tables, indexes = w.book.Prune(w.log, horizon)
	if tables2, indexes2 := w.prune(horizon); !slices.Equal(tables, tables2) || !slices.Equal(indexes, indexes2) {
		w.Fatalf("Prune(%d) = %d, %d, want %d, %d", horizon, tables, indexes, tables2, indexes2)
	}
	w.check()
	return tables, indexes
}

// columns are those of the tables of the tests for which columns don't matter.
func columns() []api.Column {
	return []api.Column{{Name: "a", Kind: api.Int}, {Name: "b", Kind: api.Text}, {Name: "c", Kind: api.Bool}}
}

// makes makes a table for which CreateTable must answer want.
func (w *world) makes(s snap.Snapshot, name string, want api.Errno) uint64 {
	w.Helper()
	id, e := w.ask(s, name, columns())
	if e != want {
		w.Fatalf("CreateTable(%v, %q) = %d, want %d", s, name, e, want)
	}
	return id
}

// makesIndex makes an index of column b for which CreateIndex must answer want.
func (w *world) makesIndex(s snap.Snapshot, name, table string, want api.Errno) uint64 {
	w.Helper()
	x, e := w.askIndex(s, name, table, "b")
	if e != want {
		w.Fatalf("CreateIndex(%v, %q, %q) = %d, want %d", s, name, table, e, want)
	}
	return x.ID
}

// drops drops a table for which DropTable must answer want.
func (w *world) drops(s snap.Snapshot, name string, want api.Errno) {
	w.Helper()
	if _, e := w.askDrop(s, false, name); e != want {
		w.Fatalf("DropTable(%v, %q) = %d, want %d", s, name, e, want)
	}
}

// dropsIndex drops an index for which DropIndex must answer want.
func (w *world) dropsIndex(s snap.Snapshot, name string, want api.Errno) {
	w.Helper()
	if _, e := w.askDrop(s, true, name); e != want {
		w.Fatalf("DropIndex(%v, %q) = %d, want %d", s, name, e, want)
	}
}

// check holds all that the book shows against the model, for each snapshot and each name.
func (w *world) check() {
	w.Helper()
	var tables []book.Table
	for _, x := range w.all {
		if x.of == nil {
			tables = append(tables, x.table())
		}
	}
	if got := w.book.Tables(); !slices.EqualFunc(got, tables, same) {
		w.Fatalf("Tables = %v, want %v", got, tables)
	}
	for table := range w.last + 2 {
		w.checkIndexes(table)
	}
	w.checkIndexes(math.MaxUint64)
	for name := range w.names {
		for _, s := range w.snaps {
			w.checkTable(s, name)
		}
	}
}

// checkIndexes holds the indexes of a table against the model.
func (w *world) checkIndexes(table uint64) {
	w.Helper()
	want := w.indexes(table, func(x *thing) bool { return w.log.State(x.xmin) != clog.Aborted })
	if got := w.book.Keep(w.log, table); !slices.Equal(got, want) {
		w.Fatalf("Keep(%d) = %v, want %v", table, got, want)
	}
	for _, s := range w.snaps {
		want := w.indexes(table, func(x *thing) bool { return w.visible(s, x) })
		if got := w.book.Indexes(w.log, s, table); !slices.Equal(got, want) {
			w.Fatalf("Indexes(%v, %d) = %v, want %v", s, table, got, want)
		}
	}
}

// checkTable holds the table with a name against the model.
func (w *world) checkTable(s snap.Snapshot, name string) {
	w.Helper()
	var want book.Table
	x := w.find(s, false, name)
	if x != nil {
		want = x.table()
	}
	if got, ok := w.book.Table(w.log, s, name); ok != (x != nil) || !same(got, want) {
		w.Fatalf("Table(%v, %q) = %v, %v, want %v", s, name, got, ok, want)
	}
}
