package room

import (
	"math"
	"math/rand"
	"testing"

	"lapidary/api"
)

// model is a map as the document describes it: the pages' rooms, by their numbers.
type model map[int]int

// mapWith makes a map whose pages have these rooms.
func mapWith(t *testing.T, rooms ...int) (*Map, model) {
	t.Helper()
	m, want := New(), model{}
	want.check(t, m)
	for page, room := range rooms {
		want.trySet(t, m, page, room)
	}
	return m, want
}

// trySet sets a room of both.
func (want model) trySet(t *testing.T, m *Map, page, room int) {
	t.Helper()
	e := api.OK
	switch {
	case page < 0 || page > 255:
		e = api.ErrArg
	case page > len(want):
		e = api.ErrForm
	case room < -1:
		want[page] = -1
	case room > 512:
		want[page] = 512
	default:
		want[page] = room
	}
	if f := m.Set(page, room); f != e {
		t.Fatalf("Set(%d, %d) = %d, want %d", page, room, f, e)
	}
	want.check(t, m)
}

// find is what Find answers.
func (want model) find(need int) (int, bool) {
	for page := range len(want) {
		if want[page] >= 0 && want[page] >= need {
			return page, true
		}
	}
	return 0, false
}

// check holds all that m tells against the model.
func (want model) check(t *testing.T, m *Map) {
	t.Helper()
	if m.Pages() != len(want) {
		t.Fatalf("Pages = %d, want %d", m.Pages(), len(want))
	}
	for _, page := range []int{math.MinInt, -257, -256, -2, -1, len(want), len(want) + 1, 255, 256, 257, 65536, 1 << 32, math.MaxInt} {
		if _, ok := want[page]; !ok && m.Get(page) != -1 {
			t.Fatalf("Get(%d) = %d", page, m.Get(page))
		}
	}
	needs := []int{math.MinInt, -2, -1, 0, 1, 511, 512, 513, 1 << 32, math.MaxInt}
	for page, room := range want {
		if m.Get(page) != room {
			t.Fatalf("Get(%d) = %d, want %d", page, m.Get(page), room)
		}
		if len(want) < 20 {
			needs = append(needs, room-1, room, room+1)
		}
	}
	for _, need := range needs {
		page, ok := want.find(need)
		if got, has := m.Find(need); got != page || has != ok {
			t.Fatalf("Find(%d) = %d, %v, want %d, %v", need, got, has, page, ok)
		}
	}
}

// P6.1: what the document's examples tell.
func TestExamples(t *testing.T) {
	m, _ := mapWith(t, 5, 50, 50)
	if page, ok := m.Find(6); page != 1 || !ok {
		t.Errorf("Find(6) = %d, %v", page, ok)
	}
	if page, ok := m.Find(51); page != 0 || ok {
		t.Errorf("Find(51) = %d, %v", page, ok)
	}
	if m.Pages() != 3 || m.Get(0) != 5 || m.Get(2) != 50 || m.Get(3) != -1 {
		t.Error(m.Pages(), m.Get(0), m.Get(2), m.Get(3))
	}
}

// P6.1: the lowest page that has room, whatever the rooms are.
func TestFind(t *testing.T) {
	for _, c := range []struct {
		rooms      []int
		need, page int
		ok         bool
	}{
		{nil, 0, 0, false}, {nil, -1, 0, false}, {nil, math.MinInt, 0, false},
		{[]int{-1}, 0, 0, false}, {[]int{-1}, -1, 0, false}, {[]int{-1, -1}, math.MinInt, 0, false},
		{[]int{0}, 0, 0, true}, {[]int{0}, -1, 0, true}, {[]int{0}, math.MinInt, 0, true}, {[]int{0}, 1, 0, false},
		{[]int{-1, 0}, -1, 1, true}, {[]int{-5, -1, 0, 1}, 0, 2, true}, {[]int{-1, 0, 1}, 1, 2, true},
		{[]int{512}, 512, 0, true}, {[]int{511, 512}, 512, 1, true}, {[]int{511}, 512, 0, false},
		{[]int{512}, 513, 0, false}, {[]int{513, math.MaxInt}, 513, 0, false}, {[]int{math.MaxInt}, math.MaxInt, 0, false},
		{[]int{9, 8, 7, 6, 7, 8, 9}, 8, 0, true}, {[]int{1, 2, 3, 4, 5, 6}, 4, 3, true}, {[]int{1, 2, 3, 4, 5, 6}, 7, 0, false}, {[]int{6, 1, 6}, 2, 0, true},
	} {
		m, _ := mapWith(t, c.rooms...)
		if page, ok := m.Find(c.need); page != c.page || ok != c.ok {
			t.Errorf("of %v: Find(%d) = %d, %v", c.rooms, c.need, page, ok)
		}
	}
}

// P6.1: a room is set anew; one below -1 counts as -1, one above 512 as 512.
func TestSetAgain(t *testing.T) {
	m, want := mapWith(t, 5, 50, 50, 7)
	for _, room := range []int{0, 1, -1, -2, -3, math.MinInt, 511, 512, 513, 514, 1 << 32, -1 << 32, math.MaxInt, 6} {
		for page := range 5 {
			want.trySet(t, m, page, room)
		}
	}
}

// P6.1: pages come one behind the other, up to 256.
func TestPages(t *testing.T) {
	m, want := mapWith(t)
	for page := range 256 {
		for _, wrong := range []int{page + 1, page + 2, 255, 256, 257, 1000, math.MaxInt} {
			if wrong <= page {
				continue
			}
			e := api.ErrForm
			if wrong > 255 {
				e = api.ErrArg
			}
			if f := m.Set(wrong, 3); f != e {
				t.Fatalf("of %d pages: Set(%d) = %d", page, wrong, f)
			}
		}
		want.trySet(t, m, page, page*3)
	}
	for _, page := range []int{math.MinInt, -256, -1, 0, 254, 255, 256, 257, 511, 512, math.MaxInt} {
		want.trySet(t, m, page, 400)
		want.trySet(t, m, page, -7)
	}
}

// P6.1: any calls, one after the other; P2: they answer the same again, on another map, too.
func TestLongSequences(t *testing.T) {
	r := rand.New(rand.NewSource(1))
	for range 50 {
		m, want := mapWith(t)
		other, _ := mapWith(t)
		for range 100 {
			page, room := r.Intn(len(want)+4)-1, r.Intn(520)-4
			want.trySet(t, m, page, room)
			want.trySet(t, other, page, room)
		}
		for page := range len(want) {
			want.trySet(t, m, page, -1)
		}
	}
}

// P6.1: calls of no map.
func TestNoMap(t *testing.T) {
	var m *Map
	for _, n := range []int{math.MinInt, -1, 0, 1, 255, 256, math.MaxInt} {
		if e, f := m.Set(n, 0), m.Set(0, n); e != api.ErrNone || f != api.ErrNone {
			t.Errorf("Set = %d, %d", e, f)
		}
		if page, ok := m.Find(n); page != 0 || ok {
			t.Errorf("Find(%d) = %d, %v", n, page, ok)
		}
		if m.Get(n) != -1 {
			t.Errorf("Get(%d) = %d", n, m.Get(n))
		}
	}
	if m.Pages() != 0 {
		t.Error(m.Pages())
	}
}
