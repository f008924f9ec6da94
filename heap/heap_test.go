package heap_test

import (
	"math"
	"math/rand"
	"slices"
	"testing"

	"lapidary/api"
	"lapidary/heap"
	"lapidary/samples"
)

// at is a location.
func at(page, slot int) api.TID { return api.TID{Page: page, Slot: slot} }

// linked is a version with a Next.
func linked(row int, next api.TID) api.Tuple {
	v := samples.Sized(row, row%7)
	v.Next = next
	return v
}

// sizes makes versions whose Data have so many bytes.
func sizes(l ...int) []api.Tuple {
	var all []api.Tuple
	for i, n := range l {
		all = append(all, samples.Sized(i, n))
	}
	return all
}

// outside lists locations that no heap of up to four pages, with up to four slots each, has.
func outside() []api.TID {
	l := []api.TID{at(-1, -1)}
	for _, n := range []int{math.MinInt, -1 << 32, -256, -2, -1, 4, 5, 14, 255, 256, 257, 511, 512, 65534, 65535, 65536, 1<<31 - 1, 1 << 32, math.MaxInt} {
		l = append(l, at(n, 0), at(n, 1), at(0, n), at(1, n), at(n, n), at(n, -1), at(-1, n))
	}
	return l
}

// P7.1: what the document's example tells.
func TestExample(t *testing.T) {
	m := sourceOf(t, 1).heapOf(t)
	m.insertAt(t, samples.Sized(1, 200), 0, 0)
	m.insertAt(t, samples.Sized(2, 200), 0, 1)
	m.full(t, samples.Sized(3, 200))
	m.free(t, at(0, 0))
	m.insertAt(t, samples.Sized(4, 200), 0, 0)
	m.full(t, samples.Sized(5, 200))
}

// P7.1: pools of 0 to 256 pages.
func TestPools(t *testing.T) {
	for n := range 257 {
		sourceOf(t, n)
	}
	for _, n := range []int{math.MinInt, math.MinInt32, -257, -256, -2, -1, 257, 258, 512, 513, 65536, 1 << 32, 1<<32 + 1, math.MaxInt} {
		if p, e := heap.NewPool(n); p != nil || e != api.ErrArg {
			t.Errorf("NewPool(%d) = %v, %d", n, p, e)
		}
	}
}

// P7.1: without any page nothing is stored; what is invalid is told ahead of that.
func TestPoolWithoutPages(t *testing.T) {
	m := sourceOf(t, 0).heapOf(t)
	for n := range 201 {
		m.full(t, samples.Sized(1, n))
	}
	for _, v := range samples.InvalidVersions() {
		if l, e := m.heap.Insert(v); l != at(0, 0) || e != api.ErrForm {
			t.Errorf("Insert(%.200v) = %v, %d", v, l, e)
		}
		m.check(t)
	}
	m.drop(t)
	m.full(t, samples.Sized(1, 0))
}

// P7.1: one heap uses up a pool, of the most pages, too; smaller versions still find room.
func TestPoolUsedUpByOne(t *testing.T) {
	for _, pages := range []int{1, 2, 3, 7} {
		s := sourceOf(t, pages)
		m := s.heapOf(t)
		for i := range 2 * pages {
			m.insertAt(t, samples.Sized(i, 200), i/2, i%2)
		}
		m.full(t, samples.Sized(1, 200))
		m.full(t, samples.Sized(1, 7))
		for i := range pages {
			m.insertAt(t, samples.Sized(i, 6), i, 2)
		}
		m.full(t, samples.Sized(1, 0))
		if s.pool.Left() != 0 {
			t.Error(s.pool.Left())
		}
	}
	p, _ := heap.NewPool(256)
	h := heap.New(p)
	for i := range 512 {
		if l, e := h.Insert(samples.Sized(i, 200)); l != at(i/2, i%2) || e != api.OK || p.Left() != 255-i/2 {
			t.Fatal(i, l, e, p.Left())
		}
	}
	if l, e := h.Insert(samples.Sized(1, 7)); l != at(0, 0) || e != api.ErrFull {
		t.Error(l, e)
	}
	for i := range 256 {
		if l, e := h.Insert(samples.Sized(i, 6)); l != at(i, 2) || e != api.OK {
			t.Fatal(i, l, e)
		}
	}
	if v, ok := h.Get(at(255, 1)); !ok || !samples.Same(v, samples.Sized(511, 200)) {
		t.Error(v, ok)
	}
	if h.Pages() != 256 || h.Used() != 768 || h.Drop() != 256 || p.Left() != 256 {
		t.Error(h.Pages(), h.Used(), p.Left())
	}
}

// P7.1: two heaps use up a pool; neither has the other's versions, nor its room.
func TestPoolUsedUpByTwo(t *testing.T) {
	s := sourceOf(t, 5)
	a, b := s.heapOf(t), s.heapOf(t)
	for i := range 4 {
		a.insertAt(t, samples.Sized(i, 200), i/2, i%2)
		b.insertAt(t, samples.Sized(10+i, 200), i/2, i%2)
		a.check(t)
	}
	a.insertAt(t, samples.Sized(4, 9), 2, 0)
	a.insertAt(t, samples.Sized(5, 200), 2, 1)
	b.full(t, samples.Sized(14, 7))
	b.insertAt(t, samples.Sized(14, 6), 0, 2)
	a.insertAt(t, samples.Sized(6, 190), 2, 2)
	a.full(t, samples.Sized(6, 190))
	b.free(t, at(1, 0))
	a.full(t, samples.Sized(6, 190))
	a.free(t, at(0, 0))
	b.insertAt(t, samples.Sized(15, 190), 1, 0)
	b.full(t, samples.Sized(15, 190))
	a.insertAt(t, samples.Sized(6, 190), 0, 0)
	a.drop(t)
	b.insertAt(t, samples.Sized(16, 200), 2, 0)
	a.insertAt(t, samples.Sized(7, 200), 0, 0)
	b.drop(t)
	a.check(t)
	b.check(t)
	if s.pool.Left() != 4 {
		t.Error(s.pool.Left())
	}
}

// P7.1: heaps of two pools do not share pages.
func TestTwoPools(t *testing.T) {
	a, b := sourceOf(t, 1).heapOf(t, sizes(200, 200)...), sourceOf(t, 2).heapOf(t)
	a.full(t, samples.Sized(1, 200))
	b.insertAt(t, samples.Sized(2, 200), 0, 0)
	a.drop(t)
	b.check(t)
	b.drop(t)
	a.check(t)
}

// P7.1: Data have 0 to 200 bytes, and what comes behind them finds the rest of the page.
func TestSizesOfData(t *testing.T) {
	for n := range 201 {
		s := sourceOf(t, 3)
		m := s.heapOf(t)
		m.insertAt(t, samples.Sized(1, n), 0, 0)
		m.insertAt(t, samples.Sized(2, 200), 0, 1)
		rest := 206 - n
		if rest < 200 {
			m.insertAt(t, samples.Sized(3, rest+1), 1, 0)
		}
		m.insertAt(t, samples.Sized(4, min(rest, 200)), 0, 2)
		if l, e := m.heap.Insert(samples.Sized(5, 201)); l != at(0, 0) || e != api.ErrForm {
			t.Fatal(l, e)
		}
		m.check(t)
	}
}

// P7.1: what is invalid is ErrForm, whether pages have room or not, the pool has one or not, and changes nothing.
func TestInvalidVersions(t *testing.T) {
	for _, c := range []struct {
		pages int
		sizes []int
	}{{0, nil}, {1, nil}, {1, []int{0}}, {1, []int{200, 200}}, {2, []int{200, 200, 6}}, {2, []int{200, 200, 200, 200}}, {2, []int{200, 200, 5, 5, 200}}, {1, make([]int, 14)}} {
		for _, v := range samples.InvalidVersions() {
			m := sourceOf(t, c.pages).heapOf(t, sizes(c.sizes...)...)
			if l, e := m.heap.Insert(v); l != at(0, 0) || e != api.ErrForm {
				t.Errorf("Insert(%.200v) = %v, %d", v, l, e)
			}
			m.check(t)
			m.insert(t, samples.Sized(9, 200))
		}
	}
}

// P7.1: a version may have the greatest numbers, and any Next that the document names.
func TestGreatestNumbers(t *testing.T) {
	for _, n := range []uint64{0, 1, 255, 256, 1 << 32, api.MaxXid - 1, api.MaxXid} {
		for _, next := range samples.Nexts() {
			m := sourceOf(t, 2).heapOf(t)
			m.insertAt(t, api.Tuple{Row: n, Xmin: 1, Xmax: 2, Next: next, Data: []byte("abc")}, 0, 0)
			m.insertAt(t, api.Tuple{Row: 1, Xmin: n, Xmax: 2, Next: next}, 0, 1)
			m.insertAt(t, api.Tuple{Row: 1, Xmin: 2, Xmax: n, Next: next, Data: []byte{0}}, 0, 2)
			m.insertAt(t, api.Tuple{Row: n, Xmin: n, Xmax: n, Next: next, Data: []byte{0, 255}}, 0, 3)
			for slot := range 5 {
				m.stamp(t, at(0, slot), n, next)
			}
		}
	}
}

// P7.1: a page is full with 14 versions without Data; the next goes to a new page, and to the first again where one was freed.
func TestFullOfEmpty(t *testing.T) {
	m := sourceOf(t, 3).heapOf(t)
	for i := range 28 {
		m.insertAt(t, samples.Sized(i, 0), i/14, i%14)
	}
	m.free(t, at(0, 13))
	m.free(t, at(1, 5))
	m.free(t, at(0, 2))
	m.insertAt(t, samples.Sized(30, 0), 0, 2)
	m.insertAt(t, samples.Sized(31, 0), 0, 13)
	m.insertAt(t, samples.Sized(32, 33), 2, 0)
	m.insertAt(t, samples.Sized(33, 32), 1, 5)
	m.insertAt(t, samples.Sized(34, 0), 2, 1)
}

// P7.1: the lowest page with room is taken, to the last byte, whichever versions were freed.
func TestLowestPage(t *testing.T) {
	have := []int{200, 200, 200, 170, 200, 120, 200, 160}
	for mask := range 1 << len(have) {
		m := sourceOf(t, 5).heapOf(t, sizes(have...)...)
		if len(m.pages) != 4 {
			t.Fatal(len(m.pages))
		}
		for i := range have {
			if mask>>i&1 == 1 {
				m.free(t, at(i/2, i%2))
			}
		}
		for _, more := range []int{1, 0} {
			for n := range 4 {
				if need := m.room(n) + more; need >= 0 && need <= 200 {
					m.insert(t, samples.Sized(9, need))
				}
			}
		}
	}
	m := sourceOf(t, 4).heapOf(t, sizes(200, 200, 200, 170, 200, 120, 200, 160)...)
	m.insertAt(t, samples.Sized(1, 46), 2, 2)
	m.insertAt(t, samples.Sized(2, 46), 3, 2)
	m.full(t, samples.Sized(3, 46))
	m.insertAt(t, samples.Sized(3, 36), 1, 2)
	m.insertAt(t, samples.Sized(4, 6), 0, 2)
}

// P7.1: the room of a version that was freed comes back, all of it, on its page.
func TestRoomComesBack(t *testing.T) {
	m := sourceOf(t, 2).heapOf(t, sizes(200, 200, 100, 100, 180)...)
	m.full(t, samples.Sized(9, 200))
	for range 3 {
		m.free(t, at(0, 1))
		m.insertAt(t, samples.Sized(10, 200), 0, 1)
		m.free(t, at(1, 0))
		m.full(t, samples.Sized(9, 137))
		m.insertAt(t, samples.Sized(11, 100), 1, 0)
	}
	m.free(t, at(1, 2))
	m.free(t, at(0, 0))
	m.free(t, at(1, 1))
	m.insertAt(t, samples.Sized(12, 200), 0, 0)
	m.insertAt(t, samples.Sized(13, 200), 1, 1)
	m.insertAt(t, samples.Sized(14, 6), 0, 2)
	m.free(t, at(0, 1))
	m.insertAt(t, samples.Sized(15, 100), 0, 1)
	m.insertAt(t, samples.Sized(16, 66), 0, 3)
	m.insertAt(t, samples.Sized(17, 0), 1, 2)
}

// P7.1, P7.2: pages without versions remain with the heap.
func TestPagesRemain(t *testing.T) {
	s := sourceOf(t, 3)
	m, other := s.heapOf(t, sizes(200, 200, 200, 200, 200, 200)...), s.heapOf(t)
	for _, l := range m.all() {
		m.free(t, l)
	}
	if m.heap.Pages() != 3 || m.heap.Used() != 0 || s.pool.Left() != 0 {
		t.Error(m.heap.Pages(), m.heap.Used(), s.pool.Left())
	}
	other.full(t, samples.Sized(1, 0))
	for i := range 6 {
		m.insertAt(t, samples.Sized(i, 200), i/2, i%2)
	}
	m.drop(t)
	other.insertAt(t, samples.Sized(1, 0), 0, 0)
}

// P7.1: locations without a version, far and near.
func TestNoVersion(t *testing.T) {
	for _, have := range [][]int{nil, {1}, {200, 100, 50, 200, 200, 200}} {
		m := sourceOf(t, 4).heapOf(t, sizes(have...)...)
		if len(have) > 1 {
			m.free(t, at(0, 1))
			m.free(t, at(1, 1))
		}
		l := outside()
		for n := range 4 {
			for slot := range 4 {
				if _, ok := m.get(at(n, slot)); !ok {
					l = append(l, at(n, slot))
				}
			}
		}
		for _, none := range l {
			if v, ok := m.heap.Get(none); ok || !samples.Same(v, api.Tuple{}) {
				t.Fatalf("Get(%v) = %+v, %v", none, v, ok)
			}
			if e := m.heap.Free(none); e != api.ErrNone {
				t.Fatalf("Free(%v) = %d", none, e)
			}
			if e := m.heap.Stamp(none, 5, at(0, 0)); e != api.ErrNone {
				t.Fatalf("Stamp(%v) = %d", none, e)
			}
			if c := m.heap.Chain(none); len(c) != 0 {
				t.Fatalf("Chain(%v) = %v", none, c)
			}
			if c := m.heap.Page(none.Page); none.Page >= len(m.pages) && len(c) != 0 {
				t.Fatalf("Page(%d) = %v", none.Page, c)
			}
			m.check(t)
		}
	}
}

// P7.1: Stamp sets Xmax and Next alone, again and again, of one version alone.
func TestStamp(t *testing.T) {
	m := sourceOf(t, 3).heapOf(t, sizes(200, 0, 190, 7, 100, 1)...)
	for _, l := range append(m.all(), outside()...) {
		m.stamp(t, l, 9, at(1, 0))
		m.stamp(t, l, 0, samples.Nowhere())
		m.stamp(t, l, api.MaxXid, at(65535, 65534))
	}
	m.free(t, at(0, 0))
	m.stamp(t, at(0, 0), 9, samples.Nowhere())
	m.insertAt(t, samples.Sized(20, 150), 0, 0)
	m.stamp(t, at(0, 0), 9, samples.Nowhere())
}

// P7.1: a stamp with which a version would be invalid is ErrForm, ahead of ErrNone, be there a version, a slot, a page or not.
func TestInvalidStamps(t *testing.T) {
	for _, have := range [][]int{nil, {200, 100, 50, 200, 200}} {
		m := sourceOf(t, 4).heapOf(t, sizes(have...)...)
		m.stamp(t, at(0, 0), 77, at(7, 8))
		if len(have) > 0 {
			m.free(t, at(0, 1))
		}
		for _, l := range append(outside(), at(0, 0), at(0, 1), at(0, 2), at(0, 3), at(1, 0), at(1, 1), at(2, 0)) {
			for _, xmax := range []uint64{api.MaxXid + 1, 1 << 63, math.MaxUint64} {
				if e := m.heap.Stamp(l, xmax, samples.Nowhere()); e != api.ErrForm {
					t.Errorf("Stamp(%v, %d) = %d", l, xmax, e)
				}
			}
			for _, next := range samples.InvalidNexts() {
				if e := m.heap.Stamp(l, 5, next); e != api.ErrForm {
					t.Errorf("Stamp(%v, 5, %v) = %d", l, next, e)
				}
			}
			m.check(t)
		}
	}
}

// P7.2: a page's locations, in order, where slots were freed and taken again.
func TestPage(t *testing.T) {
	m := sourceOf(t, 3).heapOf(t, sizes(10, 20, 30, 40, 50, 200, 60)...)
	for _, slot := range []int{3, 1} {
		m.free(t, at(0, slot))
	}
	if l := m.heap.Page(0); !slices.Equal(l, []api.TID{at(0, 0), at(0, 2), at(0, 4), at(0, 5)}) {
		t.Error(l)
	}
	m.insertAt(t, samples.Sized(9, 1), 0, 1)
	if l := m.heap.Page(0); !slices.Equal(l, []api.TID{at(0, 0), at(0, 1), at(0, 2), at(0, 4), at(0, 5)}) {
		t.Error(l)
	}
	for _, n := range []int{math.MinInt, -1 << 32, -256, -2, -1, 2, 3, 255, 256, 65536, 1 << 32, math.MaxInt} {
		if l := m.heap.Page(n); len(l) != 0 {
			t.Errorf("Page(%d) = %v", n, l)
		}
	}
}

// P7.2: chains that end, that lead where no version is, and that go in circles.
func TestChain(t *testing.T) {
	m := sourceOf(t, 3).heapOf(t,
		linked(1, samples.Nowhere()), linked(2, at(0, 0)), linked(3, at(0, 1)), linked(4, at(0, 3)),
		linked(5, at(0, 5)), linked(6, at(0, 4)), linked(7, at(0, 4)), linked(8, at(0, 6)),
		linked(9, at(0, 99)), linked(10, at(99, 0)), linked(11, at(65535, 65534)), linked(12, at(0, 11)),
		linked(13, at(1, 1)), linked(14, at(0, 12)), linked(15, at(0, 2)), linked(16, at(0, 13)))
	for from, want := range map[api.TID][]api.TID{
		at(0, 0):  {at(0, 0)},
		at(0, 1):  {at(0, 1), at(0, 0)},
		at(0, 2):  {at(0, 2), at(0, 1), at(0, 0)},
		at(0, 3):  {at(0, 3)},
		at(0, 4):  {at(0, 4), at(0, 5)},
		at(0, 5):  {at(0, 5), at(0, 4)},
		at(0, 6):  {at(0, 6), at(0, 4), at(0, 5)},
		at(0, 7):  {at(0, 7), at(0, 6), at(0, 4), at(0, 5)},
		at(0, 8):  {at(0, 8)},
		at(0, 9):  {at(0, 9)},
		at(0, 10): {at(0, 10)},
		at(0, 11): {at(0, 11)},
	} {
		if l := m.heap.Chain(from); !slices.Equal(l, want) {
			t.Errorf("Chain(%v) = %v, want %v", from, l, want)
		}
	}
	for _, none := range outside() {
		if l := m.heap.Chain(none); none.Page != 0 && none.Page != 1 && len(l) != 0 {
			t.Errorf("Chain(%v) = %v", none, l)
		}
	}
	m.free(t, at(0, 1))
	if l := m.heap.Chain(at(0, 2)); !slices.Equal(l, []api.TID{at(0, 2)}) {
		t.Error(l)
	}
	if l := m.heap.Chain(at(0, 1)); len(l) != 0 {
		t.Error(l)
	}
	m.insertAt(t, linked(20, at(0, 7)), 0, 1)
	if l := m.heap.Chain(at(0, 2)); !slices.Equal(l, []api.TID{at(0, 2), at(0, 1), at(0, 7), at(0, 6), at(0, 4), at(0, 5)}) {
		t.Error(l)
	}
	m.stamp(t, at(0, 5), 3, at(0, 2))
	if l := m.heap.Chain(at(0, 4)); !slices.Equal(l, []api.TID{at(0, 4), at(0, 5), at(0, 2), at(0, 1), at(0, 7), at(0, 6)}) {
		t.Error(l)
	}
}

// P7.2: of all ways to link five versions, on several pages.
func TestAllChains(t *testing.T) {
	m := sourceOf(t, 3).heapOf(t, sizes(200, 200, 200, 200, 200)...)
	all := m.all()
	nexts := append(slices.Clone(all), samples.Nowhere(), at(2, 1))
	ways := 1
	for range all {
		ways *= len(nexts)
	}
	for way := range ways {
		for i, n := 0, way; i < len(all); i, n = i+1, n/len(nexts) {
			v, _ := m.get(all[i])
			v.Next = nexts[n%len(nexts)]
			m.pages[all[i].Page][all[i].Slot] = &v
			if e := m.heap.Stamp(all[i], 0, v.Next); e != api.OK {
				t.Fatal(e)
			}
		}
		for _, l := range all {
			m.checkAt(t, l)
		}
	}
}

// P7.2: a long chain, and a long circle, over all pages of a pool.
func TestLongChains(t *testing.T) {
	p, _ := heap.NewPool(256)
	h := heap.New(p)
	var want []api.TID
	for i := range 3584 {
		l, e := h.Insert(api.Tuple{Next: at((i+1)/14, (i+1)%14)})
		if e != api.OK {
			t.Fatal(i, e)
		}
		want = append(want, l)
	}
	if l := h.Chain(at(0, 0)); !slices.Equal(l, want) {
		t.Error(len(l))
	}
	h.Stamp(at(255, 13), 1, at(100, 0))
	if l := h.Chain(at(0, 0)); !slices.Equal(l, want) {
		t.Error(len(l))
	}
	if l := h.Chain(at(200, 0)); !slices.Equal(l, append(slices.Clone(want[2800:]), want[1400:2800]...)) {
		t.Error(len(l))
	}
}

// P7.2: a heap is dropped, used again, and dropped again; what was in it is gone.
func TestDrop(t *testing.T) {
	s := sourceOf(t, 4)
	m, other := s.heapOf(t), s.heapOf(t, sizes(200)...)
	m.drop(t)
	for i := range 3 {
		for k := range 6 {
			m.insertAt(t, linked(i+k, at(0, 0)), 0, k)
		}
		m.insertAt(t, samples.Sized(6, 200), 0, 6)
		m.insertAt(t, samples.Sized(7, 200), 1, 0)
		m.insertAt(t, samples.Sized(8, 200), 1, 1)
		old := m.all()
		m.drop(t)
		m.drop(t)
		for _, l := range old {
			if _, ok := m.heap.Get(l); ok || m.heap.Free(l) != api.ErrNone || m.heap.Stamp(l, 1, samples.Nowhere()) != api.ErrNone || len(m.heap.Chain(l)) != 0 {
				t.Errorf("%v is still there", l)
			}
		}
		other.check(t)
		if s.pool.Left() != 3 {
			t.Error(s.pool.Left())
		}
	}
	for i := range 6 {
		m.insertAt(t, samples.Sized(i, 200), i/2, i%2)
	}
	m.full(t, samples.Sized(1, 200))
	other.drop(t)
	m.insertAt(t, samples.Sized(1, 200), 3, 0)
	m.drop(t)
	other.insertAt(t, samples.Sized(1, 0), 0, 0)
}

// P7.1, P7.2: of all short sequences of calls, of two heaps with one pool.
func TestShortSequences(t *testing.T) {
	const kinds, depth = 12, 4
	all := 1
	for range depth {
		all *= kinds
	}
	for way := range all {
		s := sourceOf(t, 2)
		two := []*model{s.heapOf(t), s.heapOf(t)}
		for i, n := 0, way; i < depth; i, n = i+1, n/kinds {
			m := two[n%2]
			switch n % kinds / 2 {
			case 0:
				m.free(t, at(0, 0))
			case 1:
				m.free(t, at(0, 1))
			case 2:
				m.drop(t)
			case 3:
				m.stamp(t, at(0, 0), 7, at(0, 1))
			case 4:
				m.insert(t, samples.Sized(i, 150))
			case 5:
				m.insert(t, samples.Sized(i, 200))
			}
			two[1-n%2].check(t)
		}
	}
}

// anyOf is one of the locations in l, or another.
func anyOf(r *rand.Rand, l []api.TID) api.TID {
	if len(l) == 0 || r.Intn(8) == 0 {
		return at(r.Intn(5)-1, r.Intn(8)-1)
	}
	return l[r.Intn(len(l))]
}

// P7.1, P7.2: of long sequences of calls, of three heaps with one pool.
func TestLongSequences(t *testing.T) {
	r := rand.New(rand.NewSource(8))
	for range 60 {
		s := sourceOf(t, r.Intn(9))
		heaps := []*model{s.heapOf(t), s.heapOf(t), s.heapOf(t)}
		for i := range 150 {
			m := heaps[r.Intn(len(heaps))]
			all := m.all()
			switch k := r.Intn(40); {
			case k == 0:
				m.drop(t)
			case k < 12:
				m.free(t, anyOf(r, all))
			case k < 18:
				next := anyOf(r, all)
				if next.Page < 0 || next.Slot < 0 {
					next = samples.Nowhere()
				}
				m.stamp(t, anyOf(r, all), uint64(r.Int63n(api.MaxXid+1)), next)
			case k < 22 && len(m.pages) > 0:
				m.insert(t, samples.Sized(i, max(0, min(api.MaxRow, m.room(r.Intn(len(m.pages)))+r.Intn(3)-1))))
			default:
				m.insert(t, samples.Sized(i, r.Intn([]int{3, 60, 201}[r.Intn(3)])))
			}
		}
		for _, m := range heaps {
			m.check(t)
			m.drop(t)
		}
	}
}

// P7.1: a heap without a pool has no pages, and gets none.
func TestNoPool(t *testing.T) {
	var p *heap.Pool
	if p.Left() != 0 {
		t.Error(p.Left())
	}
	m := (&source{}).heapOf(t)
	for range 2 {
		m.full(t, samples.Sized(1, 0))
		m.full(t, samples.Sized(1, 200))
		for _, v := range samples.InvalidVersions() {
			if l, e := m.heap.Insert(v); l != at(0, 0) || e != api.ErrForm {
				t.Errorf("Insert(%.200v) = %v, %d", v, l, e)
			}
		}
		m.stamp(t, at(0, 0), 1, at(0, 0))
		m.free(t, at(0, 0))
		m.drop(t)
	}
}

// P7.2: calls of no heap.
func TestNoHeap(t *testing.T) {
	var h *heap.Heap
	for _, v := range append(samples.InvalidVersions(), samples.Sized(1, 0), samples.Sized(1, 200)) {
		if l, e := h.Insert(v); l != at(0, 0) || e != api.ErrNone {
			t.Errorf("Insert(%.200v) = %v, %d", v, l, e)
		}
	}
	for _, l := range append(outside(), at(0, 0), at(0, 1), at(1, 0)) {
		if v, ok := h.Get(l); ok || !samples.Same(v, api.Tuple{}) {
			t.Errorf("Get(%v) = %+v, %v", l, v, ok)
		}
		if e := h.Free(l); e != api.ErrNone {
			t.Errorf("Free(%v) = %d", l, e)
		}
		if c, d := h.Chain(l), h.Page(l.Page); len(c) != 0 || len(d) != 0 {
			t.Errorf("Chain(%v) = %v, Page = %v", l, c, d)
		}
		for _, next := range append(samples.Nexts(), samples.InvalidNexts()...) {
			if e, f := h.Stamp(l, 1, next), h.Stamp(l, math.MaxUint64, next); e != api.ErrNone || f != api.ErrNone {
				t.Errorf("Stamp(%v) = %d, %d", l, e, f)
			}
		}
	}
	if h.Pages() != 0 || h.Used() != 0 || h.Drop() != 0 {
		t.Error(h.Pages(), h.Used(), h.Drop())
	}
}

// P7.1: arguments are neither changed nor kept, nor is the memory behind them.
func TestArgumentsStay(t *testing.T) {
	p, _ := heap.NewPool(2)
	h := heap.New(p)
	data := []byte("abcdef")
	for i := range 14 {
		if l, e := h.Insert(api.Tuple{Row: 1, Next: samples.Nowhere(), Data: data[:3]}); e != api.OK || i == 13 && l.Page != 1 {
			t.Fatal(l, e)
		}
	}
	h.Free(at(0, 1))
	h.Insert(api.Tuple{Row: 1, Next: samples.Nowhere(), Data: data[:3]})
	if string(data) != "abcdef" {
		t.Fatalf("an argument has changed: %q", data)
	}
	samples.Fill(data)
	for _, l := range append(h.Page(0), h.Page(1)...) {
		if v, ok := h.Get(l); !ok || string(v.Data) != "abc" {
			t.Errorf("an argument was kept: %v: %+v", l, v)
		}
	}
	if h.Used() != 14 {
		t.Error(h.Used())
	}
}

// fillTIDs overwrites l, and the memory behind it.
func fillTIDs(l []api.TID) {
	l = l[:cap(l)]
	for i := range l {
		l[i] = at(-7, -7)
	}
}

// P2: no result shares memory with another, nor with the heap; and calls answer the same again.
func TestResultsAreNew(t *testing.T) {
	m := sourceOf(t, 2).heapOf(t, linked(1, at(0, 1)), linked(2, at(0, 2)), linked(3, at(0, 0)), samples.Sized(4, 200), samples.Sized(5, 200))
	for _, l := range m.all() {
		v, _ := m.heap.Get(l)
		w, _ := m.heap.Get(l)
		samples.Fill(v.Data)
		if want, _ := m.get(l); !samples.Same(w, want) {
			t.Errorf("Get(%v) shares memory", l)
		}
		a, b := m.heap.Chain(l), m.heap.Chain(l)
		fillTIDs(a)
		if !slices.Equal(b, m.chain(l)) {
			t.Errorf("Chain(%v) shares memory", l)
		}
		a, b = m.heap.Page(l.Page), m.heap.Page(l.Page)
		fillTIDs(a)
		if !slices.Equal(b, m.page(l.Page)) {
			t.Errorf("Page(%d) shares memory", l.Page)
		}
		m.check(t)
	}
	v, _ := m.heap.Get(at(1, 0))
	l, c := m.heap.Page(0), m.heap.Chain(at(0, 0))
	m.free(t, at(1, 0))
	m.free(t, at(0, 0))
	m.insertAt(t, samples.Sized(9, 100), 0, 0)
	m.drop(t)
	m.insertAt(t, samples.Sized(9, 200), 0, 0)
	if !samples.Same(v, samples.Sized(5, 200)) || len(l) != 4 || l[0] != at(0, 0) || l[3] != at(0, 3) || !slices.Equal(c, []api.TID{at(0, 0), at(0, 1), at(0, 2)}) {
		t.Error("an earlier result has changed:", v, l, c)
	}
}
