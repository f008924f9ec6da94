package heap_test

import (
	"slices"
	"testing"

	"lapidary/api"
	"lapidary/heap"
	"lapidary/samples"
)

// source is a pool, and how many pages it must have left.
type source struct {
	pool *heap.Pool
	left int
}

// sourceOf makes a pool of so many pages.
func sourceOf(t *testing.T, pages int) *source {
	t.Helper()
	p, e := heap.NewPool(pages)
	if e != api.OK || p.Left() != pages {
		t.Fatalf("NewPool(%d): %d, %d left", pages, e, p.Left())
	}
	return &source{p, pages}
}

// model is a heap, and what the document says it must hold: for each page the versions of its slots, nil for a free one.
type model struct {
	heap   *heap.Heap
	source *source
	pages  [][]*api.Tuple
}

// heapOf makes a heap with the versions in l.
func (s *source) heapOf(t *testing.T, l ...api.Tuple) *model {
	t.Helper()
	m := &model{heap: heap.New(s.pool), source: s}
	m.check(t)
	for _, v := range l {
		if _, e := m.insert(t, v); e != api.OK {
			t.Fatalf("Insert = %d", e)
		}
	}
	return m
}

// room counts the bytes that the Data of one more version on a page may have.
func (m *model) room(n int) int {
	room := 512 - 4 - 4*len(m.pages[n]) - 30
	for _, v := range m.pages[n] {
		if v != nil {
			room -= 30 + len(v.Data)
		}
	}
	if !slices.Contains(m.pages[n], nil) {
		room -= 4
	}
	return room
}

// get is what Get answers.
func (m *model) get(at api.TID) (api.Tuple, bool) {
	if at.Page < 0 || at.Page >= len(m.pages) || at.Slot < 0 || at.Slot >= len(m.pages[at.Page]) || m.pages[at.Page][at.Slot] == nil {
		return api.Tuple{}, false
	}
	return *m.pages[at.Page][at.Slot], true
}

// page is what Page answers.
func (m *model) page(n int) []api.TID {
	var l []api.TID
	if n < 0 || n >= len(m.pages) {
		return l
	}
	for slot, v := range m.pages[n] {
		if v != nil {
			l = append(l, api.TID{Page: n, Slot: slot})
		}
	}
	return l
}

// all lists the locations of all versions.
func (m *model) all() []api.TID {
	var l []api.TID
	for n := range m.pages {
		l = append(l, m.page(n)...)
	}
	return l
}

// chain is what Chain answers.
func (m *model) chain(at api.TID) []api.TID {
	var l []api.TID
	for {
		v, ok := m.get(at)
		if !ok || slices.Contains(l, at) {
			return l
		}
		l = append(l, at)
		at = v.Next
	}
}

// check holds all that the heap and its pool tell against the model.
func (m *model) check(t *testing.T) {
	t.Helper()
	if m.source.pool.Left() != m.source.left {
		t.Fatalf("Left = %d, want %d", m.source.pool.Left(), m.source.left)
	}
	if m.heap.Pages() != len(m.pages) || m.heap.Used() != len(m.all()) {
		t.Fatalf("Pages %d, Used %d, want %d, %d", m.heap.Pages(), m.heap.Used(), len(m.pages), len(m.all()))
	}
	for n := -1; n <= len(m.pages)+1; n++ {
		if l := m.heap.Page(n); !slices.Equal(l, m.page(n)) {
			t.Fatalf("Page(%d) = %v, want %v", n, l, m.page(n))
		}
		slots := 1
		if n >= 0 && n < len(m.pages) {
			slots += len(m.pages[n])
		}
		for slot := -1; slot <= slots; slot++ {
			m.checkAt(t, api.TID{Page: n, Slot: slot})
		}
	}
}

// checkAt holds what the heap tells of one location against the model.
func (m *model) checkAt(t *testing.T, at api.TID) {
	t.Helper()
	v, ok := m.heap.Get(at)
	if want, has := m.get(at); ok != has || !samples.Same(v, want) {
		t.Fatalf("Get(%v) = %+v, %v, want %+v, %v", at, v, ok, want, has)
	}
	if l := m.heap.Chain(at); !slices.Equal(l, m.chain(at)) {
		t.Fatalf("Chain(%v) = %v, want %v", at, l, m.chain(at))
	}
}

// place is what Insert answers for a valid version.
func (m *model) place(v api.Tuple) (api.TID, api.Errno) {
	n := 0
	for n < len(m.pages) && m.room(n) < len(v.Data) {
		n++
	}
	if n == len(m.pages) {
		if m.source.left == 0 {
			return api.TID{}, api.ErrFull
		}
		m.source.left--
		m.pages = append(m.pages, nil)
	}
	slot := slices.Index(m.pages[n], nil)
	if slot < 0 {
		slot = len(m.pages[n])
		m.pages[n] = append(m.pages[n], nil)
	}
	m.pages[n][slot] = &v
	return api.TID{Page: n, Slot: slot}, api.OK
}

// insert inserts a valid version into both.
func (m *model) insert(t *testing.T, v api.Tuple) (api.TID, api.Errno) {
	t.Helper()
	want, e := m.place(v)
	if at, f := m.heap.Insert(v); at != want || f != e {
		t.Fatalf("Insert(%+v) = %v, %d, want %v, %d", v, at, f, want, e)
	}
	m.check(t)
	return want, e
}

// insertAt inserts a version for which the test knows where it goes.
func (m *model) insertAt(t *testing.T, v api.Tuple, page, slot int) {
	t.Helper()
	if at, e := m.insert(t, v); e != api.OK || at.Page != page || at.Slot != slot {
		t.Fatalf("Insert of %d bytes = %v, %d, want %d/%d", len(v.Data), at, e, page, slot)
	}
}

// full inserts a version for which the test knows that there is no page.
func (m *model) full(t *testing.T, v api.Tuple) {
	t.Helper()
	if at, e := m.insert(t, v); e != api.ErrFull {
		t.Fatalf("Insert of %d bytes = %v, %d, want ErrFull", len(v.Data), at, e)
	}
}

// stamp stamps a version of both, with what is valid.
func (m *model) stamp(t *testing.T, at api.TID, xmax uint64, next api.TID) {
	t.Helper()
	e := api.ErrNone
	if v, ok := m.get(at); ok {
		v.Xmax, v.Next = xmax, next
		m.pages[at.Page][at.Slot] = &v
		e = api.OK
	}
	if f := m.heap.Stamp(at, xmax, next); f != e {
		t.Fatalf("Stamp(%v, %d, %v) = %d, want %d", at, xmax, next, f, e)
	}
	m.check(t)
}

// free frees a location of both.
func (m *model) free(t *testing.T, at api.TID) {
	t.Helper()
	e := api.ErrNone
	if _, ok := m.get(at); ok {
		slots := m.pages[at.Page]
		slots[at.Slot] = nil
		for len(slots) > 0 && slots[len(slots)-1] == nil {
			slots = slots[:len(slots)-1]
		}
		m.pages[at.Page] = slots
		e = api.OK
	}
	if f := m.heap.Free(at); f != e {
		t.Fatalf("Free(%v) = %d, want %d", at, f, e)
	}
	m.check(t)
}

// drop drops both.
func (m *model) drop(t *testing.T) {
	t.Helper()
	want := len(m.pages)
	m.source.left += want
	m.pages = nil
	if n := m.heap.Drop(); n != want {
		t.Fatalf("Drop = %d, want %d", n, want)
	}
	m.check(t)
}
