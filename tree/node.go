package tree

import (
	"slices"
	"sort"

	"lapidary/api"
)

// minSize is how many entries, or children, each node has at least, but the root.
const minSize = api.Fan / 2

// node is a leaf with entries, or has children, below which all leaves are at the same depth.
type node struct {
	entries  []Entry
	children []*node
}

// build makes a tree of entries that are in order, and gives its root.
func build(l []Entry) *node { return rootOver(leaves(l)) }

// rootOver makes levels above l until there is one node.
func rootOver(l []*node) *node {
	for len(l) > 1 {
		l = parents(l)
	}
	return l[0]
}

// leaves makes as few leaves as entries fit in, but at least one.
func leaves(l []Entry) []*node {
	var all []*node
	for _, p := range parts(l) {
		all = append(all, &node{entries: p})
	}
	return all
}

// parents makes as few nodes as children fit in.
func parents(l []*node) []*node {
	var all []*node
	for _, p := range parts(l) {
		all = append(all, &node{children: p})
	}
	return all
}

// parts shares l out evenly.
func parts[E any](l []E) [][]E {
	n := max(1, (len(l)+api.Fan-1)/api.Fan)
	var all [][]E
	for i := range n {
		// A clone, as a part that grows would else overwrite the next one.
		all = append(all, slices.Clone(l[len(l)*i/n:len(l)*(i+1)/n]))
	}
	return all
}

// evened makes as few nodes as can be of those in l, which are of one level.
func evened(l ...*node) []*node {
	var all node
	for _, n := range l {
		all.entries = append(all.entries, n.entries...)
		all.children = append(all.children, n.children...)
	}
	if all.isLeaf() {
		return leaves(all.entries)
	}
	return parents(all.children)
}

// isLeaf is true for a node without children.
func (n *node) isLeaf() bool { return len(n.children) == 0 }

// size counts the entries of a leaf, or the children.
func (n *node) size() int { return len(n.entries) + len(n.children) }

// height counts the levels.
func (n *node) height() int {
	levels := 1
	for ; !n.isLeaf(); n = n.children[0] {
		levels++
	}
	return levels
}

// first gives the least entry of a node that has any.
func (n *node) first() Entry {
	for !n.isLeaf() {
		n = n.children[0]
	}
	return n.entries[0]
}

// childFor gives the index of the child where e is, if it is anywhere.
func (n *node) childFor(e Entry) int {
	return sort.Search(len(n.children)-1, func(i int) bool { return compare(n.children[i+1].first(), e) > 0 })
}

// insert adds e, if there is no such entry. The node itself may have one too many then.
func (n *node) insert(e Entry) bool {
	if n.isLeaf() {
		i, found := slices.BinarySearchFunc(n.entries, e, compare)
		if !found {
			n.entries = slices.Insert(n.entries, i, e.copied())
		}
		return !found
	}
	i := n.childFor(e)
	done := n.children[i].insert(e)
	n.mend(i)
	return done
}

// delete removes e, if there is such an entry. The node itself may have one too few then.
func (n *node) delete(e Entry) bool {
	if n.isLeaf() {
		i, found := slices.BinarySearchFunc(n.entries, e, compare)
		if found {
			n.entries = slices.Delete(n.entries, i, i+1)
		}
		return found
	}
	i := n.childFor(e)
	done := n.children[i].delete(e)
	n.mend(i)
	return done
}

// mend splits a child that has too many, and evens one that has too few with one beside it.
func (n *node) mend(i int) {
	size := n.children[i].size()
	if size >= minSize && size <= api.Fan {
		return
	}
	from, to := i, i+1
	if size < minSize {
		from = max(0, i-1)
		to = from + 2
	}
	n.children = slices.Replace(n.children, from, to, evened(n.children[from:to]...)...)
}

// visit goes through the entries that are not less than from, in order, until f answers false.
func (n *node) visit(from Entry, f func(Entry) bool) bool {
	if n.isLeaf() {
		i, _ := slices.BinarySearchFunc(n.entries, from, compare)
		for _, e := range n.entries[i:] {
			if !f(e) {
				return false
			}
		}
		return true
	}
	for _, c := range n.children[n.childFor(from):] {
		if !c.visit(from, f) {
			return false
		}
	}
	return true
}
