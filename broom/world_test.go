package broom_test

import (
	"reflect"
	"slices"
	"strings"
	"testing"

	"lapidary/api"
	"lapidary/book"
	"lapidary/broom"
	"lapidary/clog"
	"lapidary/key"
	"lapidary/samples"
	"lapidary/store"
)

// world is a store with brooms, and the model of it.
type world struct {
	*testing.T
	*model
	store  *store.Store
	brooms []*broom.Broom
	plans  []*plan
	events []broom.Event // all that were
}

// newWorld makes a store with so many pages and so many brooms.
func newWorld(t *testing.T, pages, brooms int) *world {
	t.Helper()
	s, e := store.New(pages)
	if e != api.OK {
		t.Fatalf("New(%d) = %d", pages, e)
	}
	w := &world{T: t, model: newModel(pages), store: s}
	for range brooms {
		w.brooms = append(w.brooms, broom.New(s))
		w.plans = append(w.plans, &plan{})
	}
	w.check()
	return w
}

// filled makes a store with 256 pages and so many brooms, in which t has a committed row for each number, and an index i of these numbers; the table's ID is 1, the index's 2.
func filled(t *testing.T, brooms int, numbers ...int64) *world {
	t.Helper()
	w := newWorld(t, api.MaxPages, brooms)
	w.one(func(xid uint64) {
		w.createTable(xid, "t")
		w.createIndex(xid, "i", "t", 0)
		for _, n := range numbers {
			w.insert(xid, "t", values(n))
		}
	})
	return w
}

// columns are those of all tables.
func columns() []api.Column {
	return []api.Column{{Name: "a", Kind: api.Int}, {Name: "b", Kind: api.Text}, {Name: "c", Kind: api.Text}}
}

// values are a row of these columns.
func values(n int64) []api.Value {
	return []api.Value{samples.Number(n), samples.Text("x"), {}}
}

// wide are a row of which three fill a page.
func wide(n int64) []api.Value {
	long := samples.Text(strings.Repeat("x", api.MaxText))
	return []api.Value{samples.Number(n), long, long}
}

// told holds an error against the one that must be, and then all that can be seen.
func (w *world) told(what string, got, want api.Errno) api.Errno {
	w.Helper()
	if got != want {
		w.Fatalf("%s = %d, want %d", what, got, want)
	}
	w.check()
	return got
}

// is holds an error against the one that must be.
func (w *world) is(want, got api.Errno) {
	w.Helper()
	if got != want {
		w.Fatalf("the error is %d, want %d", got, want)
	}
}

// one has a transaction do something, and commits it.
func (w *world) one(does func(xid uint64)) {
	w.Helper()
	xid := w.begin()
	does(xid)
	w.commit(xid)
}

// undone has a transaction do something, and aborts it.
func (w *world) undone(does func(xid uint64)) {
	w.Helper()
	xid := w.begin()
	does(xid)
	w.abort(xid)
}

// begin starts a transaction.
func (w *world) begin() uint64 {
	w.Helper()
	xid, e := w.store.Begin()
	if want := w.model.begin(); xid != want {
		w.Fatalf("Begin = %d, want %d", xid, want)
	}
	w.told("Begin", e, api.OK)
	return xid
}

// commit ends a transaction whose changes last.
func (w *world) commit(xid uint64) api.Errno {
	w.Helper()
	return w.told("Commit", w.store.Commit(xid), w.end(xid, clog.Committed))
}

// abort ends a transaction whose changes don't last.
func (w *world) abort(xid uint64) api.Errno {
	w.Helper()
	return w.told("Abort", w.store.Abort(xid), w.end(xid, clog.Aborted))
}

// createTable makes a table.
func (w *world) createTable(xid uint64, name string) api.Errno {
	w.Helper()
	return w.told("CreateTable", w.store.CreateTable(xid, name, columns()), w.model.createTable(xid, name))
}

// createIndex makes an index of a column.
func (w *world) createIndex(xid uint64, name, table string, column int) api.Errno {
	w.Helper()
	return w.told("CreateIndex", w.store.CreateIndex(xid, name, table, columns()[column].Name), w.model.createIndex(xid, name, table, column))
}

// dropTable drops a table.
func (w *world) dropTable(xid uint64, name string) api.Errno {
	w.Helper()
	return w.told("DropTable", w.store.DropTable(xid, name), w.drop(xid, name, false))
}

// dropIndex drops an index.
func (w *world) dropIndex(xid uint64, name string) api.Errno {
	w.Helper()
	return w.told("DropIndex", w.store.DropIndex(xid, name), w.drop(xid, name, true))
}

// insert adds a row.
func (w *world) insert(xid uint64, table string, l []api.Value) api.Errno {
	w.Helper()
	want := w.write(xid, table, nil)
	got := w.store.Insert(xid, table, l)
	if got == api.OK && want == api.OK {
		w.last++
		w.added(xid, table, w.last, l)
	}
	return w.wrote("Insert", got, want)
}

// update gives the row of a version other values.
func (w *world) update(xid uint64, table string, v *version, l []api.Value) api.Errno {
	w.Helper()
	want := w.write(xid, table, v)
	got := w.store.Update(xid, table, store.Row{ID: v.row, At: v.at}, l)
	if got == api.OK && want == api.OK {
		v.xmax = xid
		w.added(xid, table, v.row, l)
	}
	return w.wrote("Update", got, want)
}

// delete removes the row of a version.
func (w *world) delete(xid uint64, table string, v *version) api.Errno {
	w.Helper()
	want := w.write(xid, table, v)
	got := w.store.Delete(xid, table, store.Row{ID: v.row, At: v.at})
	if got == api.OK && want == api.OK {
		v.xmax = xid
	}
	return w.told("Delete", got, want)
}

// wrote is told, but that there may be no room for what the model has room for.
func (w *world) wrote(what string, got, want api.Errno) api.Errno {
	w.Helper()
	if got == api.ErrFull && want == api.OK && w.store.Left() == 0 {
		want = api.ErrFull
	}
	return w.told(what, got, want)
}

// added notes where a version was stored.
func (w *world) added(xid uint64, table string, row uint64, l []api.Value) {
	w.Helper()
	t := w.find(xid, table, false)
	rows, _ := w.store.Scan(xid, table)
	n := slices.IndexFunc(rows, func(r store.Row) bool { return r.ID == row })
	if n < 0 {
		w.Fatalf("%d does not see the row %d, which it has made in %s", xid, row, table)
	}
	if t.at(rows[n].At) != nil {
		w.Fatalf("the row %d is at %v, where there was a version", row, rows[n].At)
	}
	w.add(xid, t, row, rows[n].At, l)
}

// prune takes what is dead out of the book, as no broom's step.
func (w *world) prune() int {
	w.Helper()
	return int(w.told("Prune", api.Errno(w.store.Prune()), api.Errno(w.model.prune())))
}

// step has a broom do one, and holds it against the model; what those that run see must be the same behind it.
func (w *world) step(n int) broom.Event {
	w.Helper()
	before := w.views()
	got, want := w.brooms[n].Step(), w.model.step(w.plans[n])
	if got != want {
		w.Fatalf("Step of broom %d = %v, want %v", n, got, want)
	}
	w.events = append(w.events, got)
	w.check()
	if after := w.views(); !reflect.DeepEqual(before, after) {
		w.Fatalf("behind %v what is seen is %v, and was %v", got, after, before)
	}
	return got
}

// steps has a broom do some, which must be these.
func (w *world) steps(n int, want ...broom.Event) {
	w.Helper()
	for i, event := range want {
		if got := w.step(n); got != event {
			w.Fatalf("step %d of broom %d is %v, want %v", i, n, got, event)
		}
	}
}

// most has a broom do at most so many steps, and no more than a pass has left, by one call.
func (w *world) most(n, most int) int {
	w.Helper()
	want := 0
	for event := begin(0); want < most && event != end(); want++ {
		event = w.model.step(w.plans[n])
	}
	got := w.brooms[n].Pass(most)
	if got != want {
		w.Fatalf("Pass(%d) of broom %d = %d, want %d", most, n, got, want)
	}
	w.check()
	return got
}

// pass has a broom do a whole one from its Begin to its End, and gives the events between.
func (w *world) pass(n int) []broom.Event {
	w.Helper()
	if !w.brooms[n].Idle() {
		w.Fatalf("broom %d is within a pass", n)
	}
	start := len(w.events)
	for w.step(n) != end() {
	}
	return w.events[start+1 : len(w.events)-1]
}

// finish ends all that run, and has a broom end its pass.
func (w *world) finish(n int) {
	w.Helper()
	for _, xid := range w.all(clog.Running) {
		w.commit(xid)
	}
	for !w.brooms[n].Idle() {
		w.step(n)
	}
}

// shorten has the model drop what was freed: where nobody runs nobody will see it.
func (w *world) shorten() {
	for _, t := range w.things {
		t.versions = slices.DeleteFunc(t.versions, func(v *version) bool { return v.freed })
	}
}

// tight holds that there is one version for each row that is left, and one entry for each in each index.
func (w *world) tight() {
	w.Helper()
	if l := w.store.Running(); len(l) > 0 {
		w.Fatalf("%d run", l)
	}
	reader, _ := w.store.Begin()
	var used, entries []int
	tables, indexes := w.store.Book()
	rows := map[uint64]int{}
	for _, t := range tables {
		l, e := w.store.Scan(reader, t.Name)
		w.is(api.OK, e)
		rows[t.ID] = len(l)
		used = append(used, len(l))
	}
	for _, x := range indexes {
		entries = append(entries, rows[x.Table])
	}
	w.store.Abort(reader)
	w.model.begin()
	w.end(reader, clog.Aborted)
	w.has(used, entries, w.store.Left())
}

// has holds Used, Entries and Left against numbers.
func (w *world) has(used, entries []int, left int) {
	w.Helper()
	if u, e, l := w.store.Used(), w.store.Entries(), w.store.Left(); !slices.Equal(u, used) || !slices.Equal(e, entries) || l != left {
		w.Fatalf("there are %d versions, %d entries, %d pages left, want %d, %d, %d", u, e, l, used, entries, left)
	}
}

// rows gives the versions of a table that one that runs sees.
func (w *world) rows(xid uint64, table string) []*version {
	w.Helper()
	t := w.find(xid, table, false)
	if t == nil {
		w.Fatalf("%d does not see %s", xid, table)
	}
	return w.scan(xid, t)
}

// holds holds the first values of the rows of a table against numbers, in what is told by Scan and by Seek.
func (w *world) holds(xid uint64, table string, numbers ...int64) {
	w.Helper()
	l, e := w.store.Scan(xid, table)
	w.is(api.OK, e)
	if got := firsts(l); !slices.Equal(got, numbers) {
		w.Fatalf("%d sees %d in %s, want %d", xid, got, table, numbers)
	}
	for _, x := range w.store.Indexes(xid, table) {
		l, e := w.store.Seek(xid, x.ID, nil, nil)
		w.is(api.OK, e)
		if got := firsts(l); !slices.Equal(got, numbers) {
			w.Fatalf("%d finds %d by %s, want %d", xid, got, x.Name, numbers)
		}
	}
}

// firsts lists the first values of rows.
func firsts(l []store.Row) []int64 {
	var got []int64
	for _, r := range l {
		got = append(got, r.Values[0].I)
	}
	return got
}

// view is what one that runs sees by a name.
type view struct {
	table   book.Table
	rows    []store.Row
	e       api.Errno
	indexes []book.Index
	found   [][]store.Row
	refused []api.Errno
}

// views is what all that run see by all names, as the store tells.
func (w *world) views() []view {
	var l []view
	for _, xid := range w.store.Running() {
		for _, name := range w.names() {
			var v view
			v.table, _ = w.store.Table(xid, name)
			v.rows, v.e = w.store.Scan(xid, name)
			v.indexes = w.store.Indexes(xid, name)
			for _, x := range v.indexes {
				found, _ := w.store.Seek(xid, x.ID, nil, nil)
				v.found = append(v.found, found)
			}
			v.refused = w.refused(xid, name)
			l = append(l, v)
		}
	}
	return l
}

// refused is what one that runs is told if it ends the versions that it has met and may not end.
func (w *world) refused(xid uint64, name string) []api.Errno {
	w.Helper()
	t := w.find(xid, name, false)
	if t == nil {
		return nil
	}
	var l []api.Errno
	for _, v := range w.met(xid, t) {
		want := w.write(xid, name, v)
		if want == api.OK {
			continue
		}
		got := w.store.Delete(xid, name, store.Row{ID: v.row, At: v.at})
		if got != want {
			w.Fatalf("Delete(%d, %s, %v) = %d, want %d", xid, name, *v, got, want)
		}
		l = append(l, got)
	}
	return l
}

// names lists all that there ever were, and one that never was.
func (w *world) names() []string {
	l := []string{"nobody"}
	for _, t := range w.things {
		if !slices.Contains(l, t.name) {
			l = append(l, t.name)
		}
	}
	return l
}

// check holds all that the store and the brooms show against the model.
func (w *world) check() {
	w.Helper()
	var used, entries []int
	left := w.total
	for _, t := range w.tables() {
		used = append(used, t.used())
		left -= t.pages
		for _, x := range w.indexes(t) {
			entries = append(entries, len(x.entries))
		}
		if got := w.store.Pages(t.id); got != t.pages {
			w.Fatalf("Pages(%d) = %d, want %d", t.id, got, t.pages)
		}
	}
	w.has(used, entries, left)
	if got, want := w.store.Running(), w.all(clog.Running); !slices.Equal(got, want) {
		w.Fatalf("Running = %d, want %d", got, want)
	}
	for n, b := range w.brooms {
		if got, want := b.Idle(), len(w.plans[n].tasks) == 0; got != want {
			w.Fatalf("Idle of broom %d is %v", n, got)
		}
		if got, want := b.Passes(), w.plans[n].passes; got != want {
			w.Fatalf("Passes of broom %d = %d, want %d", n, got, want)
		}
	}
	for _, xid := range w.store.Running() {
		for _, name := range w.names() {
			w.checkName(xid, name)
		}
	}
}

// checkName holds what one that runs sees by a name against the model.
func (w *world) checkName(xid uint64, name string) {
	w.Helper()
	t := w.find(xid, name, false)
	rows, e := w.store.Scan(xid, name)
	_, ok := w.store.Table(xid, name)
	if t == nil {
		if ok || e != api.ErrName || len(rows) > 0 {
			w.Fatalf("%d sees %s: %v, %d", xid, name, rows, e)
		}
		return
	}
	want := w.scan(xid, t)
	if !ok || e != api.OK || !same(rows, want) {
		w.Fatalf("%d sees in %s %v, %v, %d, want %v", xid, name, ok, rows, e, plain(want))
	}
	indexes := w.store.Indexes(xid, name)
	visible := w.choose(func(x *thing) bool { return x.table == t && w.visible(xid, x) })
	if !slices.EqualFunc(indexes, visible, func(a book.Index, b *thing) bool { return a.ID == b.id && a.Name == b.name }) {
		w.Fatalf("%d sees the indexes %v of %s, want %d", xid, indexes, name, len(visible))
	}
	for _, x := range visible {
		w.checkIndex(xid, x, want)
	}
}

// checkIndex holds what one that runs finds by an index, over all keys and by each key, against the rows that it must see.
func (w *world) checkIndex(xid uint64, x *thing, want []*version) {
	w.Helper()
	if found, e := w.store.Seek(xid, x.id, nil, nil); e != api.OK || !same(found, want) {
		w.Fatalf("%d finds by %s %v, %d, want %v", xid, x.name, found, e, plain(want))
	}
	var met []api.Value
	for _, v := range want {
		value := v.values[x.column]
		if slices.Contains(met, value) {
			continue
		}
		met = append(met, value)
		k, _ := key.Bytes(value)
		found, e := w.store.Seek(xid, x.id, k, key.Behind(k))
		some := slices.DeleteFunc(slices.Clone(want), func(v *version) bool { return v.values[x.column] != value })
		if e != api.OK || !same(found, some) {
			w.Fatalf("%d finds by %s with %v %v, %d, want %v", xid, x.name, value, found, e, plain(some))
		}
	}
}

// same tells whether rows are those that versions must be shown as.
func same(l []store.Row, want []*version) bool {
	return slices.EqualFunc(l, want, func(r store.Row, v *version) bool {
		return r.ID == v.row && r.At == v.at && slices.Equal(r.Values, v.values)
	})
}

// plain lists what versions are, for a test that fails.
func plain(l []*version) []version {
	var all []version
	for _, v := range l {
		all = append(all, *v)
	}
	return all
}

// These are the events of a broom.
func begin(n int) broom.Event { return broom.Event{Kind: broom.Begin, N: n} }

func gather(table uint64, n int) broom.Event {
	return broom.Event{Kind: broom.Gather, Table: table, N: n}
}

func unlink(table, index uint64, n int) broom.Event {
	return broom.Event{Kind: broom.Unlink, Table: table, Index: index, N: n}
}

func release(table uint64, n int) broom.Event {
	return broom.Event{Kind: broom.Release, Table: table, N: n}
}

func end() broom.Event { return broom.Event{Kind: broom.End} }
