package book

import (
	"slices"

	"lapidary/api"
	"lapidary/clog"
	"lapidary/snap"
)

// entry is what tables and indexes have in common.
type entry struct {
	id   uint64
	name string
	xmin uint64
	xmax uint64
}

// item is a table or an index.
type item interface {
	number() uint64
	called(name string) bool
	visible(l *clog.Log, s snap.Snapshot) bool
	alive(l *clog.Log) bool
	dead(l *clog.Log, horizon uint64) bool
	ended(own uint64) bool
}

// stamped is a version with the stamps of e.
func (e *entry) stamped() api.Tuple { return api.Tuple{Xmin: e.xmin, Xmax: e.xmax} }

// number gives the ID of e.
func (e *entry) number() uint64 { return e.id }

// called tells whether e has that name.
func (e *entry) called(name string) bool { return e.name == name }

// visible tells whether s sees e.
func (e *entry) visible(l *clog.Log, s snap.Snapshot) bool {
	return snap.Visible(l, s, e.stamped())
}

// undone tells whether e was never created, as it turned out.
func (e *entry) undone(l *clog.Log) bool { return l.State(e.xmin) == clog.Aborted }

// alive tells whether e exists, or may come to.
func (e *entry) alive(l *clog.Log) bool {
	return !e.undone(l) && l.State(e.xmax) != clog.Committed
}

// dead tells whether nobody will see e any more.
func (e *entry) dead(l *clog.Log, horizon uint64) bool {
	return snap.Dead(l, e.stamped(), horizon)
}

// ended tells whether own has dropped e.
func (e *entry) ended(own uint64) bool { return e.xmax != 0 && e.xmax == own }

// free tells whether s, which sees e, may drop it.
func (e *entry) free(l *clog.Log, s snap.Snapshot) bool {
	return snap.Free(l, s, e.stamped()) == api.OK
}

// table is an entry with columns.
type table struct {
	entry
	columns []api.Column
}

// index is an entry that shares the fate of its table.
type index struct {
	entry
	table  *table
	column int
}

// shown is t as callers get it.
func (t *table) shown() Table {
	return Table{ID: t.id, Name: t.name, Columns: slices.Clone(t.columns), Xmin: t.xmin, Xmax: t.xmax}
}

// shown is x as callers get it.
func (x *index) shown() Index {
	return Index{ID: x.id, Name: x.name, Table: x.table.id, Column: x.column, Xmin: x.xmin, Xmax: x.xmax}
}

// visible tells whether s sees x and its table.
func (x *index) visible(l *clog.Log, s snap.Snapshot) bool {
	return x.entry.visible(l, s) && x.table.visible(l, s)
}

// alive tells whether x and its table are.
func (x *index) alive(l *clog.Log) bool { return x.entry.alive(l) && x.table.alive(l) }

// dead tells whether x or its table is.
func (x *index) dead(l *clog.Log, horizon uint64) bool {
	return x.entry.dead(l, horizon) || x.table.dead(l, horizon)
}

// find gives the first one with a name that s sees.
func find[T item](l *clog.Log, s snap.Snapshot, all []T, name string) (T, bool) {
	for _, x := range all {
		if x.called(name) && x.visible(l, s) {
			return x, true
		}
	}
	var none T
	return none, false
}

// contested tells whether one with a name is alive without s seeing it, and it isn't the transaction of s that has dropped it.
func contested[T item](l *clog.Log, s snap.Snapshot, all []T, name string) bool {
	for _, x := range all {
		if x.called(name) && x.alive(l) && !x.visible(l, s) && !x.ended(s.Own) {
			return true
		}
	}
	return false
}

// drop ends all of these, which s sees, or none, and gives the ID of the first.
func drop(l *clog.Log, s snap.Snapshot, all ...*entry) (uint64, api.Errno) {
	for _, e := range all {
		if !e.free(l, s) {
			return 0, api.ErrConflict
		}
	}
	for _, e := range all {
		e.xmax = s.Own
	}
	return all[0].id, api.OK
}

// sift divides those that are not dead from the IDs of those that are.
func sift[T item](l *clog.Log, all []T, horizon uint64) ([]T, []uint64) {
	var left []T
	var gone []uint64
	for _, x := range all {
		if x.dead(l, horizon) {
			gone = append(gone, x.number())
		} else {
			left = append(left, x)
		}
	}
	return left, gone
}
