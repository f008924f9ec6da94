package store

import (
	"lapidary/api"
	"lapidary/book"
	"lapidary/snap"
)

// Running lists the transactions that run.
func (s *Store) Running() []uint64 {
	if s == nil {
		return nil
	}
	return s.log.All()
}

// Used counts the versions of each table.
func (s *Store) Used() []int {
	var l []int
	tables, _ := s.Book()
	for _, t := range tables {
		l = append(l, s.tables[t.ID].Used())
	}
	return l
}

// Entries counts those of each index that is kept up.
func (s *Store) Entries() []int {
	var l []int
	_, indexes := s.Book()
	for _, x := range indexes {
		l = append(l, s.indexes[x.ID].tree.Len())
	}
	return l
}

// Left counts the pages that no table has.
func (s *Store) Left() int {
	if s == nil {
		return 0
	}
	return s.pool.Left()
}

// Horizon gives the number below which what was committed is seen by all that run.
func (s *Store) Horizon() uint64 {
	if s == nil {
		return 0
	}
	var all []snap.Snapshot
	for _, xid := range s.log.All() {
		all = append(all, s.views[xid])
	}
	return snap.Horizon(s.log, all)
}

// Prune removes the tables and indexes that nobody will see any more, and counts them.
func (s *Store) Prune() int {
	if s == nil {
		return 0
	}
	tables, indexes := s.book.Prune(s.log, s.Horizon())
	for _, id := range tables {
		s.tables[id].Drop()
		delete(s.tables, id)
	}
	for _, id := range indexes {
		delete(s.indexes, id)
	}
	return len(tables) + len(indexes)
}

// Gather lists where on a page of a table there are versions that nobody will see any more.
func (s *Store) Gather(table uint64, page int) []api.TID {
	if s == nil {
		return nil
	}
	t := s.tables[table]
	return s.dead(t, t.Page(page))
}

// Unlink removes an index's entries for dead versions, and counts them.
func (s *Store) Unlink(index uint64, l []api.TID) int {
	if s == nil {
		return 0
	}
	x := s.indexes[index]
	return x.tree.Prune(s.dead(x.table, l))
}

// Release frees dead versions of a table, and counts them.
func (s *Store) Release(table uint64, l []api.TID) int {
	if s == nil {
		return 0
	}
	n := 0
	t := s.tables[table]
	for _, at := range s.dead(t, l) {
		if t.Free(at) == api.OK {
			n++
		}
	}
	return n
}

// Pages counts those of a table.
func (s *Store) Pages(table uint64) int {
	if s == nil {
		return 0
	}
	return s.tables[table].Pages()
}

// Book lists all tables, and the indexes of each that are kept up.
func (s *Store) Book() ([]book.Table, []book.Index) {
	if s == nil {
		return nil, nil
	}
	tables := s.book.Tables()
	var indexes []book.Index
	for _, t := range tables {
		indexes = append(indexes, s.book.Keep(s.log, t.ID)...)
	}
	return tables, indexes
}

// dead lists those places of l at which there is a version of t that nobody will see any more.
func (s *Store) dead(t table, l []api.TID) []api.TID {
	horizon := s.Horizon()
	var places []api.TID
	for _, at := range l {
		if v, ok := t.Get(at); ok && snap.Dead(s.log, v, horizon) {
			places = append(places, at)
		}
	}
	return places
}
