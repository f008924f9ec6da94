package store_test

import (
	"bytes"
	"cmp"
	"maps"
	"slices"

	"lapidary/api"
	"lapidary/book"
	"lapidary/clog"
	"lapidary/key"
	"lapidary/row"
	"lapidary/snap"
	"lapidary/store"
)

// version is one of a row: its stamps and its values.
type version struct {
	row, xmin, xmax uint64
	values          []api.Value
}

// sheet is a table's versions, by pages and slots; nil where there is none.
type sheet struct {
	columns []api.Column
	pages   [][]*version
}

// entry is one of an index.
type entry struct {
	key string
	at  api.TID
}

// list is the entries of an index.
type list struct {
	table   uint64
	column  int
	entries map[entry]struct{}
}

// rows are those of all tables, by the IDs of the tables and by their own, as somebody sees them.
type rows map[uint64]map[uint64]store.Row

// change is what a transaction has done to a row: gone, or as it is now.
type change struct {
	table uint64
	row   store.Row
	gone  bool
}

// model is a plain store. What there is for whom is kept twice: by the stamps of versions, and as whole copies of all rows, made when a transaction begins.
type model struct {
	log     *clog.Log
	book    *book.Book
	left    int
	last    uint64
	snaps   map[uint64]snap.Snapshot
	sheets  map[uint64]*sheet
	lists   map[uint64]*list
	done    rows
	views   map[uint64]rows
	changes map[uint64][]change
}

// newModel makes a model with a pool of so many pages.
func newModel(pages int) *model {
	log, _ := clog.New(1)
	return &model{log: log, book: book.New(), left: pages, snaps: map[uint64]snap.Snapshot{}, sheets: map[uint64]*sheet{}, lists: map[uint64]*list{}, done: rows{}, views: map[uint64]rows{}, changes: map[uint64][]change{}}
}

// apply makes a change of a row.
func (r rows) apply(c change) {
	if r[c.table] == nil {
		r[c.table] = map[uint64]store.Row{}
	}
	if c.gone {
		delete(r[c.table], c.row.ID)
	} else {
		r[c.table][c.row.ID] = c.row
	}
}

// copied is the same rows in other maps.
func (r rows) copied() rows {
	other := rows{}
	for id, l := range r {
		other[id] = maps.Clone(l)
	}
	return other
}

// sorted lists the rows of a table for which a condition holds.
func (r rows) sorted(table uint64, holds func(r store.Row) bool) []store.Row {
	var l []store.Row
	for _, one := range r[table] {
		if holds(one) {
			l = append(l, one)
		}
	}
	slices.SortFunc(l, func(a, b store.Row) int { return cmp.Compare(a.ID, b.ID) })
	return l
}

// size counts the bytes of a row's values.
func size(l []api.Value) int {
	n := 1
	for _, v := range l {
		n += map[api.Kind]int{api.Int: 8, api.Bool: 1, api.Text: 1 + len(v.S)}[v.Kind]
	}
	return n
}

// keyOf is the key of a value.
func keyOf(v api.Value) []byte {
	p, _ := key.Bytes(v)
	return p
}

// room is how many bytes of values one more version may have on a page.
func (s *sheet) room(n int) int {
	free, left := 4, api.PageSize-4-30
	for _, v := range s.pages[n] {
		left -= 4
		if v == nil {
			free = 0
		} else {
			left -= 30 + size(v.values)
		}
	}
	return left - free
}

// get is the version at a place, or nil.
func (s *sheet) get(at api.TID) *version {
	if s == nil || at.Page < 0 || at.Page >= len(s.pages) || at.Slot < 0 || at.Slot >= len(s.pages[at.Page]) {
		return nil
	}
	return s.pages[at.Page][at.Slot]
}

// all lists the places of versions.
func (s *sheet) all() []api.TID {
	var l []api.TID
	if s == nil {
		return nil
	}
	for n, slots := range s.pages {
		for slot, v := range slots {
			if v != nil {
				l = append(l, api.TID{Page: n, Slot: slot})
			}
		}
	}
	return l
}

// free removes the version at a place.
func (s *sheet) free(at api.TID) {
	s.pages[at.Page][at.Slot] = nil
	for l := s.pages[at.Page]; len(l) > 0 && l[len(l)-1] == nil; l = s.pages[at.Page] {
		s.pages[at.Page] = l[:len(l)-1]
	}
}

// place stores a version, if there is room for it.
func (m *model) place(s *sheet, v *version) (api.TID, bool) {
	for n := range s.pages {
		if s.room(n) >= size(v.values) {
			slot := slices.Index(s.pages[n], nil)
			if slot < 0 {
				slot = len(s.pages[n])
				s.pages[n] = append(s.pages[n], nil)
			}
			s.pages[n][slot] = v
			return api.TID{Page: n, Slot: slot}, true
		}
	}
	if m.left == 0 {
		return api.TID{}, false
	}
	m.left--
	s.pages = append(s.pages, []*version{v})
	return api.TID{Page: len(s.pages) - 1}, true
}

// sees tells whether a snapshot must see a transaction.
func (m *model) sees(s snap.Snapshot, xid uint64) bool {
	return xid == s.Own || xid < s.Xmax && !slices.Contains(s.Running, xid) && m.log.State(xid) == clog.Committed
}

// horizon is the least number that was running, or yet to come, when one of those that run now began.
func (m *model) horizon() uint64 {
	h := m.log.Next()
	for _, s := range m.snaps {
		h = min(h, s.Xmax)
		for _, xid := range s.Running {
			h = min(h, xid)
		}
	}
	return h
}

// dead tells whether there is a version that nobody will see any more.
func (m *model) dead(v *version) bool {
	return v != nil && (m.log.State(v.xmin) == clog.Aborted || m.log.State(v.xmax) == clog.Committed && v.xmax < m.horizon())
}

// begin is what Begin must answer and do.
func (m *model) begin() (uint64, api.Errno) {
	xid, e := m.log.Begin()
	m.snaps[xid] = snap.Take(m.log, xid)
	m.views[xid] = m.done.copied()
	return xid, e
}

// end is what Commit and Abort must answer and do.
func (m *model) end(xid uint64, commit bool) api.Errno {
	if !commit {
		m.forget(xid)
		return m.log.Abort(xid)
	}
	for _, c := range m.changes[xid] {
		m.done.apply(c)
	}
	m.forget(xid)
	return m.log.Commit(xid)
}

// forget removes what is kept for one that runs.
func (m *model) forget(xid uint64) {
	delete(m.snaps, xid)
	delete(m.views, xid)
	delete(m.changes, xid)
}

// running tells whether a transaction does.
func (m *model) running(xid uint64) bool {
	_, ok := m.snaps[xid]
	return ok
}

// createTable is what CreateTable must answer and do.
func (m *model) createTable(xid uint64, name string, columns []api.Column) api.Errno {
	if !m.running(xid) {
		return api.ErrNone
	}
	id, e := m.book.CreateTable(m.log, m.snaps[xid], name, columns)
	if e == api.OK {
		m.sheets[id] = &sheet{columns: slices.Clone(columns)}
	}
	return e
}

// createIndex is what CreateIndex must answer and do.
func (m *model) createIndex(xid uint64, name, table, column string) api.Errno {
	if !m.running(xid) {
		return api.ErrNone
	}
	x, e := m.book.CreateIndex(m.log, m.snaps[xid], name, table, column)
	if e != api.OK {
		return e
	}
	l := &list{table: x.Table, column: x.Column, entries: map[entry]struct{}{}}
	for _, at := range m.sheets[x.Table].all() {
		if v := m.sheets[x.Table].get(at); !m.dead(v) {
			l.enter(at, v)
		}
	}
	m.lists[x.ID] = l
	return api.OK
}

// enter makes the entry for a version.
func (l *list) enter(at api.TID, v *version) {
	l.entries[entry{string(keyOf(v.values[l.column])), at}] = struct{}{}
}

// drop is what DropTable and DropIndex must answer and do.
func (m *model) drop(xid uint64, index bool, name string) api.Errno {
	if !m.running(xid) {
		return api.ErrNone
	}
	call := m.book.DropTable
	if index {
		call = m.book.DropIndex
	}
	_, e := call(m.log, m.snaps[xid], name)
	return e
}

// table is what Table must answer.
func (m *model) table(xid uint64, name string) (book.Table, bool) {
	if !m.running(xid) {
		return book.Table{}, false
	}
	return m.book.Table(m.log, m.snaps[xid], name)
}

// indexes is what Indexes must answer.
func (m *model) indexes(xid uint64, name string) []book.Index {
	t, ok := m.table(xid, name)
	if !ok {
		return nil
	}
	return m.book.Indexes(m.log, m.snaps[xid], t.ID)
}

// scan is what Scan must answer.
func (m *model) scan(xid uint64, name string) ([]store.Row, api.Errno) {
	t, ok := m.table(xid, name)
	switch {
	case !m.running(xid):
		return nil, api.ErrNone
	case !ok:
		return nil, api.ErrName
	}
	return m.views[xid].sorted(t.ID, func(store.Row) bool { return true }), api.OK
}

// seek is what Seek must answer: of what Scan answers the rows with keys between.
func (m *model) seek(xid, index uint64, from, to []byte) ([]store.Row, api.Errno) {
	if !m.running(xid) {
		return nil, api.ErrNone
	}
	l, ok := m.lists[index]
	if !ok || !slices.ContainsFunc(m.book.Indexes(m.log, m.snaps[xid], l.table), func(x book.Index) bool { return x.ID == index }) {
		return nil, api.ErrName
	}
	return m.views[xid].sorted(l.table, func(r store.Row) bool {
		k := keyOf(r.Values[l.column])
		return bytes.Compare(k, from) >= 0 && (len(to) == 0 || bytes.Compare(k, to) < 0)
	}), api.OK
}

// fits is what the values of a row must be told, and the sheet they are for.
func (m *model) fits(xid uint64, name string, l []api.Value) (uint64, api.Errno) {
	if !m.running(xid) {
		return 0, api.ErrNone
	}
	t, ok := m.table(xid, name)
	if !ok {
		return 0, api.ErrName
	}
	var kinds []api.Kind
	for _, c := range t.Columns {
		kinds = append(kinds, c.Kind)
	}
	return t.ID, row.Fits(kinds, l)
}

// insert is what Insert must answer and do.
func (m *model) insert(xid uint64, name string, l []api.Value) api.Errno {
	id, e := m.fits(xid, name, l)
	if e == api.OK && !m.add(xid, id, m.last+1, l) {
		e = api.ErrFull
	}
	if e == api.OK {
		m.last++
	}
	return e
}

// add stores a version of a row, enters it in the indexes and makes the change, if there is room.
func (m *model) add(xid, table, id uint64, l []api.Value) bool {
	v := &version{row: id, xmin: xid, values: slices.Clone(l)}
	at, ok := m.place(m.sheets[table], v)
	if !ok {
		return false
	}
	for _, x := range m.book.Keep(m.log, table) {
		m.lists[x.ID].enter(at, v)
	}
	m.note(xid, change{table: table, row: store.Row{ID: id, At: at, Values: v.values}})
	return true
}

// note keeps a change for its transaction.
func (m *model) note(xid uint64, c change) {
	m.views[xid].apply(c)
	m.changes[xid] = append(m.changes[xid], c)
}

// free is whether a transaction may end a version.
func (m *model) free(xid, table uint64, r store.Row) api.Errno {
	v := m.sheets[table].get(r.At)
	switch {
	case v == nil || v.row != r.ID:
		return api.ErrNone
	case v.xmax != 0 && v.xmax != xid && m.log.State(v.xmax) != clog.Aborted:
		return api.ErrConflict
	case !m.sees(m.snaps[xid], v.xmin) || v.xmax == xid:
		return api.ErrState
	}
	return api.OK
}

// update is what Update must answer and do.
func (m *model) update(xid uint64, name string, r store.Row, l []api.Value) api.Errno {
	id, e := m.fits(xid, name, l)
	if e == api.OK {
		e = m.free(xid, id, r)
	}
	if e == api.OK && !m.add(xid, id, r.ID, l) {
		e = api.ErrFull
	}
	if e == api.OK {
		m.sheets[id].get(r.At).xmax = xid
	}
	return e
}

// delete is what Delete must answer and do.
func (m *model) delete(xid uint64, name string, r store.Row) api.Errno {
	t, ok := m.table(xid, name)
	switch {
	case !m.running(xid):
		return api.ErrNone
	case !ok:
		return api.ErrName
	}
	e := m.free(xid, t.ID, r)
	if e == api.OK {
		m.sheets[t.ID].get(r.At).xmax = xid
		m.note(xid, change{table: t.ID, row: r, gone: true})
	}
	return e
}

// prune is what Prune must answer and do.
func (m *model) prune() int {
	tables, indexes := m.book.Prune(m.log, m.horizon())
	for _, id := range tables {
		m.left += len(m.sheets[id].pages)
		delete(m.sheets, id)
	}
	for _, id := range indexes {
		delete(m.lists, id)
	}
	return len(tables) + len(indexes)
}

// gather is what Gather must answer.
func (m *model) gather(table uint64, page int) []api.TID {
	var l []api.TID
	for _, at := range m.sheets[table].all() {
		if at.Page == page && m.dead(m.sheets[table].get(at)) {
			l = append(l, at)
		}
	}
	return l
}

// unlink is what Unlink must answer and do.
func (m *model) unlink(index uint64, l []api.TID) int {
	n := 0
	if x := m.lists[index]; x != nil {
		for _, e := range slices.Collect(maps.Keys(x.entries)) {
			if slices.Contains(l, e.at) && m.dead(m.sheets[x.table].get(e.at)) {
				delete(x.entries, e)
				n++
			}
		}
	}
	return n
}

// release is what Release must answer and do.
func (m *model) release(table uint64, l []api.TID) int {
	n := 0
	for _, at := range l {
		if m.dead(m.sheets[table].get(at)) {
			m.sheets[table].free(at)
			n++
		}
	}
	return n
}
