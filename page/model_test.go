package page

import (
	"bytes"
	"encoding/binary"
	"slices"
	"testing"

	"lapidary/api"
	"lapidary/samples"
)

// placed is a version, and where it lies.
type placed struct {
	at int
	t  api.Tuple
}

// end is the offset behind it.
func (v *placed) end() int { return v.at + 30 + len(v.t.Data) }

// model is a page as the document describes it. A free slot is nil.
type model struct {
	begin int
	slots []*placed
}

// free gives the first slot without a version, or that behind all.
func (m *model) free() int {
	if i := slices.Index(m.slots, nil); i >= 0 {
		return i
	}
	return len(m.slots)
}

// room is what Room answers.
func (m *model) room() int {
	n := 512 - 4 - 4*len(m.slots) - 30
	for _, v := range m.slots {
		if v != nil {
			n -= 30 + len(v.t.Data)
		}
	}
	if !slices.Contains(m.slots, nil) {
		n -= 4
	}
	return max(n, -1)
}

// insert stores a version for which there is room.
func (m *model) insert(t api.Tuple) int {
	slot, size := m.free(), 30+len(t.Data)
	if slot == len(m.slots) {
		m.slots = append(m.slots, nil)
	}
	if 4+4*len(m.slots)+size > m.begin {
		m.begin = 512
		for _, v := range m.slots {
			if v != nil {
				v.at = m.begin - 30 - len(v.t.Data)
				m.begin = v.at
			}
		}
	}
	m.begin -= size
	m.slots[slot] = &placed{m.begin, t}
	return slot
}

// remove takes away a version that there is.
func (m *model) remove(slot int) {
	m.slots[slot] = nil
	for len(m.slots) > 0 && m.slots[len(m.slots)-1] == nil {
		m.slots = m.slots[:len(m.slots)-1]
	}
}

// used counts the versions.
func (m *model) used() int {
	n := 0
	for _, v := range m.slots {
		if v != nil {
			n++
		}
	}
	return n
}

// bytes writes the page.
func (m *model) bytes() []byte {
	p := make([]byte, 512)
	order := binary.LittleEndian
	order.PutUint16(p, uint16(len(m.slots)))
	order.PutUint16(p[2:], uint16(m.begin))
	for i, v := range m.slots {
		if v == nil {
			continue
		}
		order.PutUint16(p[4+4*i:], uint16(v.at))
		order.PutUint16(p[6+4*i:], uint16(30+len(v.t.Data)))
		order.PutUint64(p[v.at:], v.t.Row)
		order.PutUint64(p[v.at+8:], v.t.Xmin)
		order.PutUint64(p[v.at+16:], v.t.Xmax)
		order.PutUint32(p[v.at+24:], uint32(v.t.Next.Page+1))
		order.PutUint16(p[v.at+28:], uint16(v.t.Next.Slot+1))
		copy(p[v.at+30:], v.t.Data)
	}
	return p
}

// modelOf reads the page with these bytes, if there is one.
func modelOf(p []byte) *model {
	if len(p) != 512 {
		return nil
	}
	order := binary.LittleEndian
	m := &model{begin: int(order.Uint16(p[2:]))}
	n := int(order.Uint16(p))
	if 4+4*n > m.begin || m.begin > 512 {
		return nil
	}
	for i := range n {
		at, size := int(order.Uint16(p[4+4*i:])), int(order.Uint16(p[6+4*i:]))
		if at == 0 && size == 0 {
			m.slots = append(m.slots, nil)
			continue
		}
		if at < m.begin || size < 30 || size > 230 || at+size > 512 {
			return nil
		}
		v := &placed{at: at, t: api.Tuple{
			Row: order.Uint64(p[at:]), Xmin: order.Uint64(p[at+8:]), Xmax: order.Uint64(p[at+16:]),
			Next: api.TID{Page: int(order.Uint32(p[at+24:])) - 1, Slot: int(order.Uint16(p[at+28:])) - 1},
			Data: bytes.Clone(p[at+30 : at+size]),
		}}
		if v.t.Row > 1<<40 || v.t.Xmin > 1<<40 || v.t.Xmax > 1<<40 || (v.t.Next.Page < 0) != (v.t.Next.Slot < 0) || v.t.Next.Page > 65535 {
			return nil
		}
		m.slots = append(m.slots, v)
	}
	if n > 0 && m.slots[n-1] == nil || m.overlap() || !bytes.Equal(m.bytes(), p) {
		return nil
	}
	return m
}

// overlap reports whether two versions share a byte.
func (m *model) overlap() bool {
	l := slices.DeleteFunc(slices.Clone(m.slots), func(v *placed) bool { return v == nil })
	slices.SortFunc(l, func(a, b *placed) int { return a.at - b.at })
	for i := 1; i < len(l); i++ {
		if l[i].at < l[i-1].end() {
			return true
		}
	}
	return false
}

// check holds all that p tells against the model.
func (m *model) check(t *testing.T, p *Page) {
	t.Helper()
	if q := p.Bytes(); !bytes.Equal(q, m.bytes()) {
		t.Fatalf("Bytes = %x, want %x", q, m.bytes())
	}
	if p.Slots() != len(m.slots) || p.Used() != m.used() || p.Room() != m.room() {
		t.Fatalf("Slots %d, Used %d, Room %d, want %d, %d, %d", p.Slots(), p.Used(), p.Room(), len(m.slots), m.used(), m.room())
	}
	for slot := -1; slot <= len(m.slots)+1; slot++ {
		got, ok := p.Get(slot)
		if want, has := m.get(slot); ok != has || !samples.Same(got, want) {
			t.Fatalf("Get(%d) = %+v, %v, want %+v, %v", slot, got, ok, want, has)
		}
	}
}

// get is what Get answers.
func (m *model) get(slot int) (api.Tuple, bool) {
	if slot < 0 || slot >= len(m.slots) || m.slots[slot] == nil {
		return api.Tuple{}, false
	}
	return m.slots[slot].t, true
}

// tryInsert inserts into both.
func (m *model) tryInsert(t *testing.T, p *Page, v api.Tuple) {
	t.Helper()
	want, e := 0, api.ErrFull
	if len(v.Data) <= m.room() {
		want, e = m.insert(v), api.OK
	}
	if slot, f := p.Insert(v); slot != want || f != e {
		t.Fatalf("Insert(%+v) = %d, %d, want %d, %d", v, slot, f, want, e)
	}
	m.check(t, p)
}

// tryFree frees a slot of both.
func (m *model) tryFree(t *testing.T, p *Page, slot int) {
	t.Helper()
	e := api.ErrNone
	if _, ok := m.get(slot); ok {
		m.remove(slot)
		e = api.OK
	}
	if f := p.Free(slot); f != e {
		t.Fatalf("Free(%d) = %d, want %d", slot, f, e)
	}
	m.check(t, p)
}

// tryStamp stamps a slot of both.
func (m *model) tryStamp(t *testing.T, p *Page, slot int, xmax uint64, next api.TID) {
	t.Helper()
	e := api.ErrNone
	if _, ok := m.get(slot); ok {
		m.slots[slot].t.Xmax, m.slots[slot].t.Next = xmax, next
		e = api.OK
	}
	if f := p.Stamp(slot, xmax, next); f != e {
		t.Fatalf("Stamp(%d, %d, %v) = %d, want %d", slot, xmax, next, f, e)
	}
	m.check(t, p)
}

// loaded makes the page of the model by Load.
func (m *model) loaded(t *testing.T) *Page {
	t.Helper()
	p, e := Load(m.bytes())
	if e != api.OK {
		t.Fatalf("Load(%x) = %d", m.bytes(), e)
	}
	m.check(t, p)
	return p
}

// pageWith makes a page with versions whose Data have so many bytes.
func pageWith(t *testing.T, sizes ...int) (*Page, *model) {
	t.Helper()
	p, m := New(), &model{begin: 512}
	m.check(t, p)
	for i, n := range sizes {
		m.tryInsert(t, p, samples.Sized(i, n))
	}
	return p, m
}
