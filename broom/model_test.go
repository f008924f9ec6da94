package broom_test

import (
	"slices"

	"lapidary/api"
	"lapidary/broom"
	"lapidary/clog"
)

// stamps tell which transaction has made something, and which one has ended it.
type stamps struct{ xmin, xmax uint64 }

// version is one of a row.
type version struct {
	stamps
	row    uint64
	at     api.TID
	values []api.Value
	freed  bool
}

// thing is a table, or, if it has one, an index.
type thing struct {
	stamps
	id       uint64
	name     string
	table    *thing
	column   int
	pruned   bool
	pages    int
	versions []*version // of a table, all that it ever had
	entries  []*version // of an index
}

// model is a plain store, in which nothing that ever was is removed: what is swept out is marked only, and no transaction asks for that mark.
type model struct {
	total  int // pages
	last   uint64
	states []int                          // of transactions, by their numbers
	knows  map[uint64]map[uint64]struct{} // of one that runs: which ones had committed when it began
	floors map[uint64]uint64              // of one that runs: the least that ran beside it when it began, or the one to come
	things []*thing                       // by their IDs, from 1 on
	late   int                            // how many versions had an entry when they came to be freed
}

// newModel makes a model of a store of so many pages.
func newModel(pages int) *model {
	return &model{total: pages, states: []int{clog.None}, knows: map[uint64]map[uint64]struct{}{}, floors: map[uint64]uint64{}}
}

// next is the number of the transaction that begins next.
func (m *model) next() uint64 { return uint64(len(m.states)) }

// all lists the transactions that are in a state.
func (m *model) all(state int) []uint64 {
	var l []uint64
	for xid, s := range m.states {
		if s == state {
			l = append(l, uint64(xid))
		}
	}
	return l
}

// running tells whether a transaction does.
func (m *model) running(xid uint64) bool {
	return xid < m.next() && m.states[xid] == clog.Running
}

// begin starts a transaction.
func (m *model) begin() uint64 {
	xid := m.next()
	m.knows[xid] = map[uint64]struct{}{}
	for _, other := range m.all(clog.Committed) {
		m.knows[xid][other] = struct{}{}
	}
	m.floors[xid] = xid + 1
	if l := m.all(clog.Running); len(l) > 0 {
		m.floors[xid] = l[0]
	}
	m.states = append(m.states, clog.Running)
	return xid
}

// end commits a transaction, or aborts it.
func (m *model) end(xid uint64, state int) api.Errno {
	if !m.running(xid) {
		return api.ErrNone
	}
	m.states[xid] = state
	delete(m.knows, xid)
	delete(m.floors, xid)
	return api.OK
}

// horizon is the least floor of those that run.
func (m *model) horizon() uint64 {
	h := m.next()
	for _, floor := range m.floors {
		h = min(h, floor)
	}
	return h
}

// sees tells whether one that runs sees what another has done.
func (m *model) sees(xid, other uint64) bool {
	_, ok := m.knows[xid][other]
	return ok || other == xid
}

// shows tells whether one that runs sees what has these stamps.
func (m *model) shows(xid uint64, s stamps) bool {
	return m.sees(xid, s.xmin) && !m.sees(xid, s.xmax)
}

// dead tells whether nobody will see any more what has these stamps.
func (m *model) dead(s stamps) bool {
	return m.states[s.xmin] == clog.Aborted || m.states[s.xmax] == clog.Committed && s.xmax < m.horizon()
}

// owned tells whether another one than xid was first to end what has these stamps.
func (m *model) owned(xid uint64, s stamps) bool {
	return s.xmax != 0 && s.xmax != xid && m.states[s.xmax] != clog.Aborted
}

// alive tells whether a table or an index exists, or may come to.
func (m *model) alive(t *thing) bool {
	alive := m.states[t.xmin] != clog.Aborted && m.states[t.xmax] != clog.Committed
	return alive && (t.table == nil || m.alive(t.table))
}

// visible tells whether one that runs sees a table or an index.
func (m *model) visible(xid uint64, t *thing) bool {
	return m.shows(xid, t.stamps) && (t.table == nil || m.visible(xid, t.table))
}

// kept tells whether an index is kept up.
func (m *model) kept(x *thing) bool { return !x.pruned && m.states[x.xmin] != clog.Aborted }

// find gives the table with a name, or the index, or nil.
func (m *model) find(xid uint64, name string, index bool) *thing {
	for _, t := range m.things {
		if t.name == name && (t.table != nil) == index && m.visible(xid, t) {
			return t
		}
	}
	return nil
}

// tables lists those that were not pruned.
func (m *model) tables() []*thing {
	return m.choose(func(t *thing) bool { return t.table == nil && !t.pruned })
}

// indexes lists those of a table that are kept up.
func (m *model) indexes(table *thing) []*thing {
	return m.choose(func(x *thing) bool { return x.table == table && m.kept(x) })
}

// choose lists the tables and indexes for which a condition holds.
func (m *model) choose(holds func(t *thing) bool) []*thing {
	var l []*thing
	for _, t := range m.things {
		if holds(t) {
			l = append(l, t)
		}
	}
	return l
}

// vacant is what one that runs is told if it gives a name to one more, of at most so many.
func (m *model) vacant(xid uint64, name string, most int, index bool) api.Errno {
	if m.find(xid, name, false) != nil || m.find(xid, name, true) != nil {
		return api.ErrExists
	}
	contested := func(t *thing) bool {
		return t.name == name && m.alive(t) && !m.visible(xid, t) && t.xmax != xid
	}
	if len(m.choose(contested)) > 0 {
		return api.ErrConflict
	}
	if len(m.choose(func(t *thing) bool { return (t.table != nil) == index && !t.pruned })) >= most {
		return api.ErrFull
	}
	return api.OK
}

// enter makes a table or an index.
func (m *model) enter(xid uint64, name string, table *thing, column int) *thing {
	t := &thing{stamps: stamps{xmin: xid}, id: uint64(len(m.things)) + 1, name: name, table: table, column: column}
	m.things = append(m.things, t)
	return t
}

// createTable makes a table.
func (m *model) createTable(xid uint64, name string) api.Errno {
	if !m.running(xid) {
		return api.ErrNone
	}
	e := m.vacant(xid, name, api.MaxTables, false)
	if e == api.OK {
		m.enter(xid, name, nil, 0)
	}
	return e
}

// createIndex makes an index.
func (m *model) createIndex(xid uint64, name, table string, column int) api.Errno {
	if !m.running(xid) {
		return api.ErrNone
	}
	t := m.find(xid, table, false)
	if t == nil {
		return api.ErrName
	}
	e := m.vacant(xid, name, api.MaxIndexes, true)
	if e == api.OK {
		x := m.enter(xid, name, t, column)
		for _, v := range t.versions {
			if !v.freed && !m.dead(v.stamps) {
				x.entries = append(x.entries, v)
			}
		}
	}
	return e
}

// drop ends a table with its indexes, or an index.
func (m *model) drop(xid uint64, name string, index bool) api.Errno {
	if !m.running(xid) {
		return api.ErrNone
	}
	t := m.find(xid, name, index)
	if t == nil {
		return api.ErrName
	}
	l := m.choose(func(x *thing) bool { return x == t || x.table == t && m.visible(xid, x) })
	for _, x := range l {
		if m.owned(xid, x.stamps) {
			return api.ErrConflict
		}
	}
	for _, x := range l {
		x.xmax = xid
	}
	return api.OK
}

// scan lists what one that runs sees of a table, by the IDs of the rows.
func (m *model) scan(xid uint64, t *thing) []*version {
	var l []*version
	for _, v := range t.versions {
		if m.shows(xid, v.stamps) {
			l = append(l, v)
		}
	}
	slices.SortFunc(l, func(a, b *version) int { return int(a.row) - int(b.row) })
	return l
}

// met lists what one that runs sees of a table or has seen before it ended it, and what it has made.
func (m *model) met(xid uint64, t *thing) []*version {
	var l []*version
	for _, v := range t.versions {
		if m.sees(xid, v.xmin) && (v.xmax == xid || !m.sees(xid, v.xmax)) {
			l = append(l, v)
		}
	}
	return l
}

// write is what one that runs is told if it adds a row to a table, or, if v is not nil, ends that version.
func (m *model) write(xid uint64, table string, v *version) api.Errno {
	switch {
	case !m.running(xid):
		return api.ErrNone
	case m.find(xid, table, false) == nil:
		return api.ErrName
	case v != nil && m.owned(xid, v.stamps):
		return api.ErrConflict
	case v != nil && !m.shows(xid, v.stamps):
		return api.ErrState
	}
	return api.OK
}

// add stores a version.
func (m *model) add(xid uint64, t *thing, row uint64, at api.TID, values []api.Value) {
	v := &version{stamps: stamps{xmin: xid}, row: row, at: at, values: slices.Clone(values)}
	t.versions = append(t.versions, v)
	t.pages = max(t.pages, at.Page+1)
	for _, x := range m.indexes(t) {
		x.entries = append(x.entries, v)
	}
}

// at gives the version that lies at a place, or nil.
func (t *thing) at(place api.TID) *version {
	for _, v := range t.versions {
		if v.at == place && !v.freed {
			return v
		}
	}
	return nil
}

// used counts the versions of a table.
func (t *thing) used() int {
	n := 0
	for _, v := range t.versions {
		if !v.freed {
			n++
		}
	}
	return n
}

// prune takes what is dead out of the book, and counts it.
func (m *model) prune() int {
	n := 0
	for _, t := range m.things {
		if !t.pruned && (m.dead(t.stamps) || t.table != nil && m.dead(t.table.stamps)) {
			t.pruned = true
			n++
		}
	}
	return n
}

// deadAt lists the dead versions of a table at places for which a condition holds.
func (m *model) deadAt(t *thing, holds func(at api.TID) bool) []*version {
	var l []*version
	for _, v := range t.versions {
		if !t.pruned && !v.freed && holds(v.at) && m.dead(v.stamps) {
			l = append(l, v)
		}
	}
	return l
}

// unlink removes the entries for the places of versions from an index, and counts them.
func (x *thing) unlink(l []*version) int {
	if x.pruned {
		return 0
	}
	n := len(x.entries)
	x.entries = slices.DeleteFunc(x.entries, func(v *version) bool {
		return slices.ContainsFunc(l, func(other *version) bool { return other.at == v.at })
	})
	return n - len(x.entries)
}

// task is a step that a broom has yet to do.
type task struct {
	broom.Event
	page int
}

// plan is what a broom has yet to do in its pass.
type plan struct {
	tasks  []task
	places []api.TID
	passes int
}

// plans lists the steps of a pass that begins.
func (m *model) plans() []task {
	var l []task
	for _, t := range m.tables() {
		for page := range t.pages {
			l = append(l, task{broom.Event{Kind: broom.Gather, Table: t.id}, page})
		}
		l = append(l, task{Event: broom.Event{Kind: broom.Unlink, Table: t.id}}, task{Event: broom.Event{Kind: broom.Release, Table: t.id}})
	}
	return append(l, task{Event: broom.Event{Kind: broom.End}})
}

// step is what the next step of a broom must answer and do.
func (m *model) step(p *plan) broom.Event {
	if len(p.tasks) == 0 {
		n := m.prune()
		p.tasks = m.plans()
		return broom.Event{Kind: broom.Begin, N: n}
	}
	if first := p.tasks[0]; first.Kind == broom.Unlink && first.Index == 0 { // the first for this table: now its indexes count
		var l []task
		for _, x := range m.indexes(m.things[first.Table-1]) {
			l = append(l, task{Event: broom.Event{Kind: broom.Unlink, Table: first.Table, Index: x.id}})
		}
		p.tasks = append(l, p.tasks[1:]...)
	}
	event := p.tasks[0].Event
	event.N = m.do(p, p.tasks[0])
	p.tasks = p.tasks[1:]
	return event
}

// do does a step behind Begin, and counts.
func (m *model) do(p *plan, t task) int {
	if t.Kind == broom.End {
		p.passes++
		return 0
	}
	table := m.things[t.Table-1]
	gathered := m.deadAt(table, func(at api.TID) bool { return slices.Contains(p.places, at) })
	switch t.Kind {
	case broom.Gather:
		found := m.deadAt(table, func(at api.TID) bool { return at.Page == t.page })
		for _, v := range found {
			p.places = append(p.places, v.at)
		}
		return len(found)
	case broom.Unlink:
		return m.things[t.Index-1].unlink(gathered)
	}
	for _, x := range m.indexes(table) {
		m.late += x.unlink(gathered)
	}
	for _, v := range gathered {
		v.freed = true
	}
	p.places = nil
	return len(gathered)
}
