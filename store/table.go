package store

import (
	"lapidary/api"
	"lapidary/heap"
	"lapidary/key"
	"lapidary/row"
	"lapidary/tree"
)

// table is the versions of a table, and the kinds of its columns.
type table struct {
	*heap.Heap
	kinds []api.Kind
}

// index is the entries of an index, and where the versions are that they are for.
type index struct {
	tree   *tree.Tree
	table  table
	column int
}

// newTable makes a table without versions.
func newTable(p *heap.Pool, columns []api.Column) table {
	var kinds []api.Kind
	for _, c := range columns {
		kinds = append(kinds, c.Kind)
	}
	return table{heap.New(p), kinds}
}

// nowhere is the Next of a version that has none.
func nowhere() api.TID { return api.TID{Page: -1, Slot: -1} }

// places lists where there are versions.
func (t table) places() []api.TID {
	var l []api.TID
	for n := range t.Pages() {
		l = append(l, t.Page(n)...)
	}
	return l
}

// values reads those of a version.
func (t table) values(v api.Tuple) []api.Value {
	l, _ := row.Read(t.kinds, v.Data)
	return l
}

// key gives that of a version with values l.
func (x index) key(l []api.Value) []byte {
	k, _ := key.Bytes(l[x.column])
	return k
}

// add enters the version at a place, which has values l.
func (x index) add(at api.TID, l []api.Value) {
	// There is such an entry already if the place was released ahead of it: it does for this version, too.
	x.tree.Insert(tree.Entry{Key: x.key(l), At: at})
}
