package page

import (
	"bytes"
	"math"
	"math/rand"
	"slices"
	"strings"
	"testing"

	"lapidary/api"
	"lapidary/samples"
)

// zeros is n bytes 0.
func zeros(n int) string { return strings.Repeat("\x00", n) }

// P5.2: the bytes of a new page.
func TestBytesOfNew(t *testing.T) {
	if p := New().Bytes(); string(p) != "\x00\x00\x00\x02"+zeros(508) {
		t.Errorf("%x", p)
	}
}

// P5.1, P5.2: the bytes of versions, and of slots that are free.
func TestBytesOfVersions(t *testing.T) {
	p := New()
	first := api.Tuple{Row: 0x0102030405, Xmin: api.MaxXid, Xmax: 0, Next: samples.Nowhere(), Data: []byte("a")}
	second := api.Tuple{Row: 0, Xmin: 258, Xmax: api.MaxXid, Next: api.TID{Page: 65535, Slot: 65534}}
	third := api.Tuple{Row: 7, Xmin: 8, Xmax: 9, Next: api.TID{Page: 0, Slot: 0}, Data: []byte("bc\x00")}
	for i, v := range []api.Tuple{first, second, third} {
		if slot, e := p.Insert(v); slot != i || e != api.OK {
			t.Fatal(slot, e)
		}
	}
	const (
		firstBytes  = "\x05\x04\x03\x02\x01\x00\x00\x00" + "\x00\x00\x00\x00\x00\x01\x00\x00" + "\x00\x00\x00\x00\x00\x00\x00\x00" + "\x00\x00\x00\x00\x00\x00" + "a"
		secondBytes = "\x00\x00\x00\x00\x00\x00\x00\x00" + "\x02\x01\x00\x00\x00\x00\x00\x00" + "\x00\x00\x00\x00\x00\x01\x00\x00" + "\x00\x00\x01\x00\xff\xff"
		thirdBytes  = "\x07\x00\x00\x00\x00\x00\x00\x00" + "\x08\x00\x00\x00\x00\x00\x00\x00" + "\x09\x00\x00\x00\x00\x00\x00\x00" + "\x01\x00\x00\x00\x01\x00" + "bc\x00"
	)
	slots := "\xe1\x01\x1f\x00" + "\xc3\x01\x1e\x00" + "\xa2\x01\x21\x00"
	checkBytes(t, p, "\x03\x00\xa2\x01"+slots+zeros(402)+thirdBytes+secondBytes+firstBytes)
	if e := p.Free(1); e != api.OK {
		t.Fatal(e)
	}
	checkBytes(t, p, "\x03\x00\xa2\x01"+slots[:4]+zeros(4)+slots[8:]+zeros(402)+thirdBytes+zeros(30)+firstBytes)
	if e := p.Stamp(0, 0x0a0b0c, api.TID{Page: 0x0102, Slot: 0x0304}); e != api.OK {
		t.Fatal(e)
	}
	stamped := firstBytes[:16] + "\x0c\x0b\x0a\x00\x00\x00\x00\x00" + "\x03\x01\x00\x00\x05\x03" + "a"
	checkBytes(t, p, "\x03\x00\xa2\x01"+slots[:4]+zeros(4)+slots[8:]+zeros(402)+thirdBytes+zeros(30)+stamped)
	if e := p.Free(2); e != api.OK {
		t.Fatal(e)
	}
	checkBytes(t, p, "\x01\x00\xa2\x01"+slots[:4]+zeros(410)+zeros(63)+stamped)
	if e := p.Stamp(0, 0, samples.Nowhere()); e != api.OK {
		t.Fatal(e)
	}
	checkBytes(t, p, "\x01\x00\xa2\x01"+slots[:4]+zeros(410)+zeros(63)+firstBytes)
	if e := p.Free(0); e != api.OK {
		t.Fatal(e)
	}
	checkBytes(t, p, "\x00\x00\xa2\x01"+zeros(508))
}

// checkBytes holds p against its bytes, both ways.
func checkBytes(t *testing.T, p *Page, want string) {
	t.Helper()
	if got := string(p.Bytes()); got != want {
		t.Fatalf("Bytes = %x, want %x", got, want)
	}
	q, e := Load([]byte(want))
	if e != api.OK || string(q.Bytes()) != want {
		t.Fatalf("Load(%x): %d", want, e)
	}
}

// P5.1: what the document's examples tell.
func TestExamples(t *testing.T) {
	p := New()
	if p.Room() != 474 || p.Slots() != 0 || p.Used() != 0 {
		t.Error(p.Room(), p.Slots(), p.Used())
	}
	slot, e := p.Insert(samples.Version(1, "a"))
	if slot != 0 || e != api.OK || p.Room() != 439 || p.Slots() != 1 || p.Used() != 1 {
		t.Error(slot, e, p.Room(), p.Slots(), p.Used())
	}
	if e := p.Free(0); e != api.OK || p.Room() != 474 || p.Slots() != 0 || p.Used() != 0 {
		t.Error(e, p.Room(), p.Slots(), p.Used())
	}
}

// P5.1: a free slot is taken ahead of a new one, the lowest first; and a slot is freed at the end or between.
func TestSlots(t *testing.T) {
	p, m := pageWith(t, 3, 0, 10, 4, 5, 6)
	m.tryFree(t, p, 3)
	m.tryFree(t, p, 1)
	m.tryFree(t, p, 1)
	for _, v := range []api.Tuple{samples.Sized(11, 1), samples.Sized(12, 2), samples.Sized(13, 3)} {
		m.tryInsert(t, p, v)
	}
	if m.slots[1].t.Row != 12 || m.slots[3].t.Row != 13 || m.slots[6].t.Row != 14 {
		t.Fatal("the model takes other slots")
	}
	for _, slot := range []int{4, 5, 2, 6, -1, 7, 5, 3, 0, 1, 0} {
		m.tryFree(t, p, slot)
	}
	if p.Slots() != 0 || m.begin == 512 {
		t.Fatal(p.Slots(), m.begin)
	}
	m.tryInsert(t, p, samples.Sized(20, 7))
}

// P5.1: Data have 0 to 200 bytes, and the first three of the greatest do not fit.
func TestSizesOfData(t *testing.T) {
	for n := range api.MaxRow + 1 {
		p, m := pageWith(t, n)
		m.tryInsert(t, p, samples.Sized(1, api.MaxRow-n))
		m.loaded(t)
	}
	p, m := pageWith(t, 200, 200)
	if m.tryInsert(t, p, samples.Sized(2, 200)); p.Slots() != 2 || p.Room() != 6 {
		t.Fatal(p.Slots(), p.Room())
	}
	m.tryInsert(t, p, samples.Sized(2, 7))
	if m.tryInsert(t, p, samples.Sized(2, 6)); p.Slots() != 3 || p.Room() != -1 {
		t.Fatal(p.Slots(), p.Room())
	}
	m.tryInsert(t, p, samples.Sized(3, 0))
}

// P5.1: a page is full with versions without Data; and Room is 0 where just such a one fits.
func TestFullOfEmpty(t *testing.T) {
	p, m := pageWith(t, make([]int, 14)...)
	if p.Room() != -1 {
		t.Fatal(p.Room())
	}
	m.tryInsert(t, p, samples.Sized(1, 0))
	m.tryFree(t, p, 5)
	if p.Room() != 32 {
		t.Fatal(p.Room())
	}
	m.tryInsert(t, p, samples.Sized(1, 33))
	m.tryInsert(t, p, samples.Sized(1, 32))
	for _, c := range []struct{ third, room int }{{171, 1}, {172, 0}, {173, -1}, {180, -1}} {
		p, m := pageWith(t, 200, 0, c.third)
		if p.Room() != c.room {
			t.Fatal(c, p.Room())
		}
		m.tryInsert(t, p, samples.Sized(3, c.room+1))
		if m.tryInsert(t, p, samples.Sized(3, 0)); p.Slots() != 3+min(1, c.room+1) {
			t.Fatal(c, p.Slots())
		}
		m.tryFree(t, p, 1)
		m.tryInsert(t, p, samples.Sized(4, m.room()+1))
		m.tryInsert(t, p, samples.Sized(5, m.room()))
	}
}

// P5.1: where holes before, between and behind the versions leave just so many bytes, the versions are moved.
func TestHoles(t *testing.T) {
	sizes := []int{70, 50, 60, 80, 40, 20}
	for mask := range 1 << len(sizes) {
		p, m := pageWith(t, sizes...)
		for slot := range sizes {
			if mask>>slot&1 == 1 {
				m.tryFree(t, p, slot)
			}
		}
		room := m.room()
		if room < api.MaxRow {
			m.tryInsert(t, p, samples.Sized(9, room+1))
		}
		m.tryInsert(t, p, samples.Sized(9, max(min(room, api.MaxRow), 0)))
		m.loaded(t)
	}
}

// P5.1: versions are moved only where there is no room before them, be it for one byte, and for the new slot.
func TestMovedOnlyWhereNeeded(t *testing.T) {
	for _, end := range []bool{true, false} {
		p, m := pageWith(t, 100, 50, 100)
		slots := 3
		if end {
			m.tryFree(t, p, 0)
		} else {
			m.tryFree(t, p, 2)
			m.tryFree(t, p, 1)
			slots = 2
		}
		before := m.begin - 4 - 4*slots - 30
		begin := m.begin
		m.tryInsert(t, p, samples.Sized(7, before))
		if m.begin != begin-30-before || m.begin != 4+4*slots {
			t.Fatalf("moved for %d bytes: %d", before, m.begin)
		}
		p, m = pageWith(t, 100, 50, 100)
		if end {
			m.tryFree(t, p, 0)
		} else {
			m.tryFree(t, p, 2)
			m.tryFree(t, p, 1)
		}
		m.tryInsert(t, p, samples.Sized(7, before+1))
		if m.begin <= 4+4*slots {
			t.Fatalf("not moved for %d bytes: %d", before+1, m.begin)
		}
	}
}

// P5.1: an invalid version is ErrForm, ahead of ErrFull, and changes nothing.
func TestInvalidVersions(t *testing.T) {
	for _, sizes := range [][]int{nil, {5}, {200, 200}, {200, 200, 6}, make([]int, 14)} {
		for _, v := range samples.InvalidVersions() {
			p, m := pageWith(t, sizes...)
			if slot, e := p.Insert(v); slot != 0 || e != api.ErrForm {
				t.Errorf("Insert(%.200v) = %d, %d", v, slot, e)
			}
			m.check(t, p)
		}
	}
}

// P5.1: a version may have the greatest numbers, and any Next that the document names.
func TestGreatestNumbers(t *testing.T) {
	for _, n := range []uint64{0, 1, 255, 256, 1 << 32, api.MaxXid - 1, api.MaxXid} {
		for _, next := range samples.Nexts() {
			p, m := pageWith(t, 3)
			m.tryInsert(t, p, api.Tuple{Row: n, Xmin: 1, Xmax: 2, Next: next, Data: []byte("abc")})
			m.tryInsert(t, p, api.Tuple{Row: 1, Xmin: n, Xmax: 2, Next: next})
			m.tryInsert(t, p, api.Tuple{Row: 1, Xmin: 2, Xmax: n, Next: next, Data: []byte{0}})
			m.tryInsert(t, p, api.Tuple{Row: n, Xmin: n, Xmax: n, Next: next, Data: []byte{0, 255}})
			m.loaded(t)
			for slot := -1; slot < 6; slot++ {
				m.tryStamp(t, p, slot, n, next)
			}
		}
	}
}

// P5.1: Stamp sets Xmax and Next alone, again and again; without a version it is ErrNone.
func TestStamp(t *testing.T) {
	p, m := pageWith(t, 0, 7, 100, 1)
	m.tryFree(t, p, 1)
	for _, slot := range []int{math.MinInt, -2, -1, 0, 1, 2, 3, 4, 5, 127, 65535, 65536, math.MaxInt} {
		m.tryStamp(t, p, slot, 9, api.TID{Page: 4, Slot: 5})
		m.tryStamp(t, p, slot, 0, samples.Nowhere())
		m.tryStamp(t, p, slot, api.MaxXid, api.TID{Page: 65535, Slot: 65534})
	}
}

// P5.1: a stamp with which a version would be invalid is ErrForm, ahead of ErrNone, and changes nothing.
func TestInvalidStamps(t *testing.T) {
	p, m := pageWith(t, 0, 7, 100, 1)
	m.tryFree(t, p, 1)
	m.tryStamp(t, p, 2, 77, api.TID{Page: 7, Slot: 8})
	for _, slot := range []int{math.MinInt, -1, 0, 1, 2, 3, 4, math.MaxInt} {
		for _, xmax := range []uint64{api.MaxXid + 1, 1 << 63, math.MaxUint64} {
			if e := p.Stamp(slot, xmax, samples.Nowhere()); e != api.ErrForm {
				t.Errorf("Stamp(%d, %d) = %d", slot, xmax, e)
			}
		}
		for _, next := range samples.InvalidNexts() {
			if e := p.Stamp(slot, 5, next); e != api.ErrForm {
				t.Errorf("Stamp(%d, 5, %v) = %d", slot, next, e)
			}
		}
		m.check(t, p)
	}
}

// P5.1: slots without a version.
func TestNoVersion(t *testing.T) {
	p, m := pageWith(t, 4, 5, 6)
	m.tryFree(t, p, 1)
	for _, slot := range []int{math.MinInt, -65536, -2, -1, 1, 3, 4, 127, 128, 65535, 65536, math.MaxInt} {
		if v, ok := p.Get(slot); ok || !samples.Same(v, api.Tuple{}) {
			t.Errorf("Get(%d) = %+v, %v", slot, v, ok)
		}
		m.tryFree(t, p, slot)
	}
}

// P5.1, P5.2: of all short sequences of calls.
func TestShortSequences(t *testing.T) {
	var try func(m *model, depth int)
	try = func(m *model, depth int) {
		if depth == 0 {
			return
		}
		for step := range 7 {
			next := modelOf(m.bytes())
			p := next.loaded(t)
			switch {
			case step < 3:
				next.tryFree(t, p, step)
			default:
				next.tryInsert(t, p, samples.Sized(depth, []int{0, 90, 180, 200}[step-3]))
			}
			try(next, depth-1)
		}
	}
	try(&model{begin: 512}, 5)
}

// P5.1, P5.2: of long sequences of calls, on pages that were loaded from any bytes of a page, too.
func TestLongSequences(t *testing.T) {
	r := rand.New(rand.NewSource(5))
	for range 400 {
		m := scattered(r)
		p := m.loaded(t)
		for i := range 60 {
			slot := r.Intn(len(m.slots)+3) - 1
			switch k := r.Intn(20); {
			case k < 7:
				m.tryFree(t, p, slot)
			case k < 10:
				m.tryStamp(t, p, slot, uint64(r.Int63n(api.MaxXid+1)), anyNext(r))
			case k < 12:
				m.tryInsert(t, p, samples.Sized(i, max(0, min(api.MaxRow, m.room()+r.Intn(3)-1))))
			default:
				m.tryInsert(t, p, samples.Sized(i, r.Intn([]int{3, 40, 201}[r.Intn(3)])))
			}
			if r.Intn(10) == 0 {
				p = m.loaded(t)
			}
		}
	}
}

// anyNext is one of the valid ones.
func anyNext(r *rand.Rand) api.TID {
	all := samples.Nexts()
	return all[r.Intn(len(all))]
}

// scattered makes a page whose versions lie in any order, with any holes.
func scattered(r *rand.Rand) *model {
	m := &model{}
	at := 512 - r.Intn(3)*r.Intn(40)
	var l []*placed
	for range r.Intn(8) {
		v := samples.Sized(len(l), r.Intn(60))
		if at -= 30 + len(v.Data); at < 100 {
			break
		}
		l = append(l, &placed{at, v})
		m.begin = at
		at -= r.Intn(2) * r.Intn(20)
	}
	r.Shuffle(len(l), func(i, j int) { l[i], l[j] = l[j], l[i] })
	for _, v := range l {
		for range r.Intn(3) {
			m.slots = append(m.slots, nil)
		}
		m.slots = append(m.slots, v)
	}
	low := 4 + 4*len(m.slots)
	if len(l) == 0 {
		m.begin = 512
	}
	if r.Intn(2) == 0 {
		m.begin = low + r.Intn(m.begin-low+1)
	}
	return m
}

// put gives the bytes of a page, with others from an offset on.
func put(page string, at int, with string) string {
	return page[:at] + with + page[at+len(with):]
}

// P5.2: bytes that are a page's though no calls may have left them so.
func TestLoadOfOthers(t *testing.T) {
	empty := "\x00\x00\x00\x02" + zeros(508)
	least := put(put(put(empty, 0, "\x01\x00\x08\x00"), 4, "\x08\x00\x1e\x00"), 24, "\x01")
	for _, p := range []string{
		empty, put(empty, 2, "\x04\x00"), put(empty, 2, "\x05\x00"), put(empty, 2, "\xff\x01"), put(empty, 2, "\x2c\x01"),
		least, put(least, 4, "\x09\x00\x1d\x00")[:4] + "\x08\x00\xe6\x00" + least[8:], put(put(least, 24, "\x00"), 8, "\x00\x00\x00\x00\x00\x01"),
	} {
		q, e := Load([]byte(p))
		if e != api.OK || string(q.Bytes()) != p {
			t.Errorf("Load(%x) = %d", p, e)
			continue
		}
		m := modelOf([]byte(p))
		m.check(t, q)
		m.tryInsert(t, q, samples.Sized(3, 100))
	}
}

// P5.2: bytes of each kind that are no page's.
func TestLoadOfNone(t *testing.T) {
	var three string
	{
		p, m := pageWith(t, 10, 0, 200, 4)
		m.tryFree(t, p, 1)
		three = string(p.Bytes())
	}
	empty := "\x00\x00\x00\x02" + zeros(508)
	// The four slots' bytes lie at 4 to 19, and the versions' at 472, 212 and 178, with a hole at 442.
	l := map[string]string{
		"too short": three[:511], "too long": three + "\x00", "twice": three + three, "nothing": "", "the first byte": three[:1],
		"all 0": zeros(512), "all ff": strings.Repeat("\xff", 512),
		"begins within the head": put(empty, 2, "\x03\x00"), "begins at 0": put(empty, 2, "\x00\x00"), "begins beyond": put(empty, 2, "\x01\x02"), "begins far beyond": put(empty, 2, "\xff\xff"),
		"begins within the slots": put(put(empty, 0, "\x02\x00\x0b\x00"), 8, "\x0c\x00\x1e\x00"),
		"slots beyond":            put(empty, 0, "\x80\x00"), "slots far beyond": put(empty, 0, "\xff\xff"), "slots to the end": put(empty, 0, "\x7f\x00"),
		"the only slot is free": put(empty, 0, "\x01\x00"), "the last slot is free": put(three, 0, "\x05\x00"), "many are free": put(three, 0, "\x0a\x00"),
		"one slot less": put(three, 0, "\x03\x00"), "no slots": put(three, 0, "\x00\x00"),
		"begins behind the first": put(three, 2, "\xb3\x00"), "begins at the end": put(three, 2, "\x00\x02"),
		"at 0": put(three, 16, "\x00\x00"), "no bytes": put(three, 18, "\x00\x00"), "ahead of the data": put(three, 16, "\xb1\x00"), "ahead, in a free slot": put(three, 8, "\x00\x00\x1e\x00"),
		"29 bytes": put(three, 18, "\x1d\x00"), "1 byte": put(three, 18, "\x01\x00"),
		"201 bytes of Data": put(three, 12, "\xd3\x00\xe7\x00"), "ends beyond": put(three, 6, "\x29\x00"), "far beyond": put(three, 4, "\xff\xff\xff\xff"), "begins at the page's end": put(three, 4, "\x00\x02\x1e\x00"),
		"the same twice": put(three, 8, three[4:8]), "one byte shared": put(three, 18, "\x23\x00"), "one in another": put(three, 8, "\xe4\x00\x1e\x00"), "a free slot within the hole, and a byte more": put(three, 8, "\xba\x01\x1f\x00"),
		"in the gap": put(three, 20, "\x01"), "in the gap's end": put(three, 177, "\x01"), "in the hole": put(three, 442, "\x01"), "in the hole's end": put(three, 471, "\x80"),
		"Row": put(three, 178, "\x01\x00\x00\x00\x00\x01"), "Row's last": put(three, 178, "\x00\x00\x00\x00\x00\x00\x00\x01"),
		"Xmin": put(three, 186, "\x01\x00\x00\x00\x00\x01"), "Xmax": put(three, 194, "\x01\x00\x00\x00\x00\x01"), "Xmax's last": put(three, 201, "\x80"),
		"Page without Slot": put(three, 202, "\x01"), "Slot without Page": put(three, 206, "\x01"), "Page 65536": put(three, 202, "\x01\x00\x01\x00\x01\x00"), "Page 2^32 - 2": put(three, 202, "\xff\xff\xff\xff\x01\x00"), "Page 2^31 - 1": put(three, 202, "\x00\x00\x00\x80\x01\x00"),
	}
	if _, e := Load([]byte(three)); e != api.OK {
		t.Fatal(e)
	}
	for what, p := range l {
		if q, e := Load([]byte(p)); q != nil || e != api.ErrForm {
			t.Errorf("%s: Load = %v, %d", what, q, e)
		}
		if modelOf([]byte(p)) != nil {
			t.Errorf("%s: the model has it as a page", what)
		}
	}
	if q, e := Load(nil); q != nil || e != api.ErrForm {
		t.Errorf("nil: %v, %d", q, e)
	}
	// The greatest Next, and numbers, are still valid.
	for at, with := range map[int]string{178: "\x00\x00\x00\x00\x00\x01", 186: "\x00\x00\x00\x00\x00\x01", 194: "\x00\x00\x00\x00\x00\x01", 202: "\x00\x00\x01\x00\xff\xff"} {
		checkLoad(t, []byte(put(three, at, with)))
		if _, e := Load([]byte(put(three, at, with))); e != api.OK {
			t.Errorf("at %d: %d", at, e)
		}
	}
}

// P5.2: what is wrong of a version in bytes of which all others may be 0.
func TestLoadOfOneWrong(t *testing.T) {
	for p, want := range map[string]api.Errno{
		"\x01\x00\xe2\x01\xe2\x01\x1e\x00":                 api.OK,
		"\x01\x00\xe1\x01\xe1\x01\x1e\x00":                 api.OK,
		"\x01\x00\x1a\x01\x1a\x01\xe6\x00":                 api.OK,
		"\x02\x00\xc4\x01\xe2\x01\x1e\x00\xc4\x01\x1e\x00": api.OK,
		// before the data
		"\x01\x00\xe2\x01\xe1\x01\x1e\x00": api.ErrForm,
		"\x01\x00\xe2\x01\x08\x00\x1e\x00": api.ErrForm,
		// beyond them
		"\x01\x00\xe2\x01\xe3\x01\x1e\x00": api.ErrForm,
		"\x01\x00\xe2\x01\xe2\x01\x1f\x00": api.ErrForm,
		"\x01\x00\xe2\x01\xff\xff\x1e\x00": api.ErrForm,
		"\x01\x00\xe2\x01\xe2\x01\xff\xff": api.ErrForm,
		// too few or too many bytes
		"\x01\x00\xe2\x01\xe2\x01\x1d\x00": api.ErrForm,
		"\x01\x00\xe2\x01\xe3\x01\x1d\x00": api.ErrForm,
		"\x01\x00\xe2\x01\xe2\x01\x00\x00": api.ErrForm,
		"\x01\x00\xe2\x01\x00\x00\x1e\x00": api.ErrForm,
		"\x01\x00\x19\x01\x19\x01\xe7\x00": api.ErrForm,
		// overlapping ones
		"\x02\x00\xc4\x01\xe2\x01\x1e\x00\xc5\x01\x1e\x00":                 api.ErrForm,
		"\x02\x00\xc4\x01\xc5\x01\x1e\x00\xe2\x01\x1e\x00":                 api.ErrForm,
		"\x02\x00\xc4\x01\xc4\x01\x1f\x00\xe2\x01\x1e\x00":                 api.ErrForm,
		"\x02\x00\xc4\x01\xe2\x01\x1e\x00\xe2\x01\x1e\x00":                 api.ErrForm,
		"\x02\x00\x80\x01\x80\x01\x80\x00\xa0\x01\x1e\x00":                 api.ErrForm,
		"\x03\x00\xc4\x01\xc4\x01\x1e\x00\xe2\x01\x1e\x00\xd0\x01\x1e\x00": api.ErrForm,
	} {
		l := []byte(p + zeros(512-len(p)))
		checkLoad(t, l)
		if q, e := Load(l); e != want || (q != nil) != (e == api.OK) {
			t.Errorf("%x and 0: Load = %v, %d", p, q, e)
		}
	}
}

// checkLoad holds Load against the model.
func checkLoad(t *testing.T, l []byte) {
	t.Helper()
	p, e := Load(l)
	m := modelOf(l)
	if m == nil {
		if p != nil || e != api.ErrForm {
			t.Fatalf("Load(%x) = %v, %d", l, p, e)
		}
		return
	}
	if e != api.OK {
		t.Fatalf("Load(%x) = %d", l, e)
	}
	m.check(t, p)
}

// P5.2: bytes near to a page's.
func TestLoadNearPages(t *testing.T) {
	p, m := pageWith(t, 10, 0, 200, 4)
	m.tryFree(t, p, 1)
	r := rand.New(rand.NewSource(6))
	for _, m := range []*model{{begin: 512}, m, scattered(r), scattered(r)} {
		l := m.bytes()
		for n := range l {
			checkLoad(t, l[:n])
		}
		for i := range l {
			for b := range 256 {
				if i > 60 && b > 8 && b < 248 {
					continue
				}
				was := l[i]
				l[i] = byte(b)
				checkLoad(t, l)
				l[i] = was
			}
		}
	}
}

// P5.1, P5.2: calls of no page.
func TestNoPage(t *testing.T) {
	var p *Page
	for _, v := range append(samples.InvalidVersions(), samples.Sized(1, 0), samples.Sized(1, 200)) {
		if slot, e := p.Insert(v); slot != 0 || e != api.ErrNone {
			t.Errorf("Insert = %d, %d", slot, e)
		}
	}
	for _, slot := range []int{math.MinInt, -1, 0, 1, math.MaxInt} {
		if v, ok := p.Get(slot); ok || !samples.Same(v, api.Tuple{}) {
			t.Errorf("Get(%d) = %+v, %v", slot, v, ok)
		}
		if e := p.Free(slot); e != api.ErrNone {
			t.Errorf("Free(%d) = %d", slot, e)
		}
		for _, next := range append(samples.Nexts(), samples.InvalidNexts()...) {
			if e, f := p.Stamp(slot, 1, next), p.Stamp(slot, math.MaxUint64, next); e != api.ErrNone || f != api.ErrNone {
				t.Errorf("Stamp(%d) = %d, %d", slot, e, f)
			}
		}
	}
	if p.Room() != -1 || p.Slots() != 0 || p.Used() != 0 || len(p.Bytes()) != 0 {
		t.Error(p.Room(), p.Slots(), p.Used(), p.Bytes())
	}
}

// P5.1, P5.2: arguments are neither changed nor kept, nor is the memory behind them.
func TestArgumentsStay(t *testing.T) {
	p := New()
	data := []byte("abcdef")
	for range 14 {
		v := api.Tuple{Row: 1, Next: samples.Nowhere(), Data: data[:3]}
		p.Insert(v)
		p.Free(0)
	}
	p.Insert(api.Tuple{Row: 1, Next: samples.Nowhere(), Data: data[:3]})
	l := append(p.Bytes(), "xyz"...)
	q, e := Load(l[:512])
	if e != api.OK || string(data) != "abcdef" || string(l[512:]) != "xyz" || !bytes.Equal(l[:512], p.Bytes()) {
		t.Fatal("an argument has changed", e)
	}
	samples.Fill(data)
	samples.Fill(l)
	for _, p := range []*Page{p, q} {
		if v, ok := p.Get(0); !ok || string(v.Data) != "abc" {
			t.Errorf("an argument was kept: %+v", v)
		}
	}
}

// P2: no result shares memory with another, nor with the page; and calls answer the same again.
func TestResultsAreNew(t *testing.T) {
	p, m := pageWith(t, 5, 0, 200, 17)
	m.tryFree(t, p, 0)
	for slot := range 4 {
		v, _ := p.Get(slot)
		w, _ := p.Get(slot)
		samples.Fill(v.Data)
		if want, _ := m.get(slot); !samples.Same(w, want) {
			t.Errorf("Get(%d) shares memory", slot)
		}
		m.check(t, p)
	}
	l := p.Bytes()
	k := p.Bytes()
	samples.Fill(l)
	if !bytes.Equal(k, m.bytes()) {
		t.Error("Bytes shares memory")
	}
	m.check(t, p)
	q := m.loaded(t)
	before := slices.Clone(k)
	q.Free(1)
	q.Insert(samples.Sized(9, 30))
	if !bytes.Equal(k, before) {
		t.Error("Bytes gives the page's memory")
	}
	m.check(t, p)
}

// P1: all calls end, on pages that were loaded from any bytes.
func TestAllCallsEnd(t *testing.T) {
	r := rand.New(rand.NewSource(7))
	for range 20000 {
		l := make([]byte, 512)
		r.Read(l[:r.Intn(40)])
		l[0], l[1], l[3] = byte(r.Intn(4)), 0, byte(r.Intn(3))
		checkLoad(t, l)
	}
	for _, n := range []int{0, 1, 2, 3, 4, 511, 512, 513, 1024, 1 << 20} {
		checkLoad(t, make([]byte, n))
		checkLoad(t, bytes.Repeat([]byte{255}, n))
	}
}
