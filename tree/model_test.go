package tree_test

import (
	"cmp"
	"math/bits"
	"slices"
	"testing"

	"lapidary/api"
	"lapidary/tree"
)

// entry is an entry as the tests write it.
type entry struct {
	key string
	at  api.TID
}

// at is a location.
func at(page, slot int) api.TID { return api.TID{Page: page, Slot: slot} }

// made is the entry as a tree takes it.
func (e entry) made() tree.Entry { return tree.Entry{Key: []byte(e.key), At: e.at} }

// order is the document's order of entries.
func order(a, b entry) int {
	if a.key != b.key {
		return cmp.Compare(a.key, b.key)
	}
	if a.at.Page != b.at.Page {
		return cmp.Compare(a.at.Page, b.at.Page)
	}
	return cmp.Compare(a.at.Slot, b.at.Slot)
}

// listed is what a tree answered, as the tests write it.
func listed(l []tree.Entry) []entry {
	var all []entry
	for _, e := range l {
		all = append(all, entry{string(e.Key), e.At})
	}
	return all
}

// model is a tree, and what the document says it must hold: the entries, in order.
type model struct {
	tree    *tree.Tree
	entries []entry
}

// treeOf makes a tree of entries, put in the order of the list.
func treeOf(t *testing.T, l ...entry) *model {
	t.Helper()
	m := &model{tree: tree.New()}
	m.check(t)
	for _, e := range l {
		m.insert(t, e)
	}
	m.check(t)
	return m
}

// scan is what Scan answers.
func (m *model) scan(from, to string) []entry {
	var l []entry
	for _, e := range m.entries {
		if e.key >= from && (to == "" || e.key < to) {
			l = append(l, e)
		}
	}
	return l
}

// checkSize holds what the tree tells of its size against the model.
func (m *model) checkSize(t *testing.T) {
	t.Helper()
	n := len(m.entries)
	if m.tree.Len() != n {
		t.Fatalf("Len = %d, want %d", m.tree.Len(), n)
	}
	least := 1
	for most := 8; most < n; most *= 8 {
		least++
	}
	most := max(1, bits.Len(uint(n)))
	if h := m.tree.Height(); h < least || h > most {
		t.Fatalf("Height of %d entries = %d, want %d to %d", n, h, least, most)
	}
}

// checkScan holds one Scan against the model.
func (m *model) checkScan(t *testing.T, from, to string) {
	t.Helper()
	if l, want := listed(m.tree.Scan([]byte(from), []byte(to))), m.scan(from, to); !slices.Equal(l, want) {
		t.Fatalf("Scan(%.100q, %.100q) of %d entries = %.1000v, want %.1000v", from, to, len(m.entries), l, want)
	}
}

// check holds all that the tree tells against the model, but for where a Scan begins and ends.
func (m *model) check(t *testing.T) {
	t.Helper()
	m.checkSize(t)
	m.checkScan(t, "", "")
}

// insert inserts into both an entry whose key is not too long.
func (m *model) insert(t *testing.T, e entry) {
	t.Helper()
	want := api.ErrExists
	i, found := slices.BinarySearchFunc(m.entries, e, order)
	if !found {
		m.entries = slices.Insert(m.entries, i, e)
		want = api.OK
	}
	if f := m.tree.Insert(e.made()); f != want {
		t.Fatalf("Insert(%.100v) = %d, want %d", e, f, want)
	}
	m.checkSize(t)
}

// delete deletes an entry from both.
func (m *model) delete(t *testing.T, e entry) {
	t.Helper()
	want := api.ErrNone
	i, found := slices.BinarySearchFunc(m.entries, e, order)
	if found {
		m.entries = slices.Delete(m.entries, i, i+1)
		want = api.OK
	}
	if f := m.tree.Delete(e.made()); f != want {
		t.Fatalf("Delete(%.100v) = %d, want %d", e, f, want)
	}
	m.checkSize(t)
}

// prune prunes both, and tells how many entries went.
func (m *model) prune(t *testing.T, l ...api.TID) int {
	t.Helper()
	before := len(m.entries)
	m.entries = slices.DeleteFunc(m.entries, func(e entry) bool { return slices.Contains(l, e.at) })
	want := before - len(m.entries)
	if n := m.tree.Prune(l); n != want {
		t.Fatalf("Prune(%.1000v) = %d, want %d", l, n, want)
	}
	m.check(t)
	return want
}
