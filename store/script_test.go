package store_test

import (
	"math/rand"
	"slices"
	"strings"
	"testing"

	"lapidary/api"
	"lapidary/key"
	"lapidary/samples"
	"lapidary/store"
)

// script is a world in which transactions do anything, in any order.
type script struct {
	*world
	*rand.Rand
	met map[api.Errno]int // how often each error was met
}

// newScript makes a script with so many pages, with two tables, of which one has indexes.
func newScript(t *testing.T, seed int64, pages int) *script {
	s := &script{world: newWorld(t, pages), Rand: rand.New(rand.NewSource(seed)), met: map[api.Errno]int{}}
	one := s.begin()
	s.is(api.OK, s.createTable(one, "t", columns()))
	s.is(api.OK, s.createIndex(one, "i", "t", "a"))
	s.is(api.OK, s.createIndex(one, "j", "t", "b"))
	s.is(api.OK, s.createTable(one, "u", columns()[1:]))
	s.is(api.OK, s.commit(one))
	return s
}

// of is one of a list.
func of[T any](s *script, l ...T) T { return l[s.Intn(len(l))] }

// xid is one that runs, and now and then one that doesn't.
func (s *script) xid() uint64 {
	l := s.log.All()
	if len(l) == 0 || s.Intn(60) == 0 {
		return uint64(s.Intn(int(s.log.Next()) + 2))
	}
	return of(s, l...)
}

// value is one for a column, now and then such as doesn't fit.
func (s *script) value(kind api.Kind) api.Value {
	switch s.Intn(100) {
	case 0:
		return of(s, samples.Invalid()...)
	case 1:
		return of(s, samples.Ascending()...)
	case 2, 3, 4, 5, 6, 7, 8:
		return api.Value{}
	}
	switch kind {
	case api.Int:
		return samples.Number(int64(s.Intn(7)))
	case api.Text:
		return samples.Text(strings.Repeat(of(s, "a", "b", "c"), of(s, 0, 1, 2, api.MaxText)))
	}
	return samples.Truth(s.Intn(2) == 0)
}

// values are those of a row of a table, now and then too few or too many.
func (s *script) values(xid uint64, table string) []api.Value {
	t, _ := s.table(xid, table)
	var l []api.Value
	for _, c := range t.Columns {
		l = append(l, s.value(c.Kind))
	}
	if s.Intn(60) == 0 {
		return append(l, api.Value{})[s.Intn(2)*min(2, len(l)):]
	}
	return l
}

// place is mostly that of a version.
func (s *script) place(table uint64) api.TID {
	l := s.sheets[table].all()
	if len(l) == 0 || s.Intn(10) == 0 {
		return at(s.Intn(5)-1, s.Intn(12)-1)
	}
	return of(s, l...)
}

// row is mostly one that a transaction sees, now and then an older version, or none.
func (s *script) row(xid uint64, table string) store.Row {
	l, _ := s.scan(xid, table)
	t, _ := s.table(xid, table)
	if len(l) > 0 && s.Intn(6) > 0 {
		r := of(s, l...)
		if s.Intn(20) == 0 {
			r.ID += uint64(s.Intn(3)) - 1
		}
		return r
	}
	r := store.Row{ID: uint64(s.Intn(int(s.last) + 2)), At: s.place(t.ID)}
	if v := s.sheets[t.ID].get(r.At); v != nil && s.Intn(5) > 0 {
		r.ID = v.row
	}
	return r
}

// names are those of tables, and of indexes.
func (s *script) called() string { return of(s, "t", "t", "t", "u", "v", "i", "j", "k") }

// some makes columns.
func (s *script) some() []api.Column {
	l := []api.Column{{Name: "a"}, {Name: "b"}, {Name: "c"}, {Name: "d"}}[:1+s.Intn(4)]
	for i := range l {
		l[i].Kind = of(s, api.Int, api.Text, api.Bool)
	}
	if s.Intn(20) == 0 {
		l[0].Name = of(s, "", "b", "B")
	}
	return l
}

// turn begins a transaction or ends one.
func (s *script) turn(most int) {
	s.Helper()
	l := s.log.All()
	if len(l) == 0 || len(l) < most && s.Intn(2) == 0 {
		s.begin()
		return
	}
	if xid := s.xid(); s.Intn(3) > 0 {
		s.met[s.commit(xid)]++
	} else {
		s.met[s.abort(xid)]++
	}
}

// catalog makes or drops a table or an index.
func (s *script) catalog() {
	s.Helper()
	xid := s.xid()
	switch s.Intn(9) {
	case 0, 1:
		s.met[s.createTable(xid, s.called(), s.some())]++
	case 2:
		s.met[s.dropTable(xid, s.called())]++
	case 3, 4, 5, 6:
		s.met[s.createIndex(xid, s.called(), s.called(), of(s, "a", "b", "c", "d"))]++
	default:
		s.met[s.dropIndex(xid, s.called())]++
	}
}

// write inserts, changes or deletes a row.
func (s *script) write() {
	s.Helper()
	xid, table := s.xid(), s.called()
	switch s.Intn(7) {
	case 0, 1, 2:
		s.met[s.insert(xid, table, s.values(xid, table)...)]++
	case 3, 4, 5:
		s.met[s.update(xid, table, s.row(xid, table), s.values(xid, table)...)]++
	default:
		s.met[s.delete(xid, table, s.row(xid, table))]++
	}
}

// read seeks by an index.
func (s *script) read() {
	s.Helper()
	end := func() []byte {
		p, _ := key.Bytes(s.value(of(s, api.Int, api.Text, api.Bool)))
		switch s.Intn(5) {
		case 0:
			p = key.Behind(p)
		case 1:
			p = p[:s.Intn(len(p)+1)]
		}
		return p
	}
	for _, id := range s.ids() {
		_, e := s.seek(s.xid(), id, end(), end())
		s.met[e]++
	}
}

// tidy does one of the things that a broom does, and with it some that no broom does; release tells whether places may be freed ahead of their entries.
func (s *script) tidy(release bool) {
	s.Helper()
	id := of(s, s.ids()...)
	var l []api.TID
	if x := s.lists[id]; x != nil {
		for e := range x.entries {
			l = append(l, e.at)
		}
		l = append(l, s.place(x.table))
	}
	for range s.Intn(20) {
		l = append(l, s.place(id))
	}
	switch s.Intn(5) {
	case 0:
		s.prune()
	case 1, 2:
		s.unlink(id, l...)
	case 3:
		if release {
			s.release(id, l...)
		}
	default:
		s.sweep()
	}
}

// step does anything.
func (s *script) step(most int, release bool) {
	s.Helper()
	switch k := s.Intn(100); {
	case k < 22:
		s.turn(most)
	case k < 32:
		s.catalog()
	case k < 84:
		s.write()
	case k < 92:
		s.read()
	default:
		s.tidy(release)
	}
}

// P12.1 to P12.6: long scripts, held at each step against the model.
func TestScripts(t *testing.T) {
	for seed := range int64(80) {
		s := newScript(t, seed, []int{2, 3, 5, 8, api.MaxPages}[seed%5])
		most := 1 + int(seed/5)%5
		for range 400 {
			s.step(most, seed%2 == 0)
		}
		if seed%2 == 0 {
			continue
		}
		for _, xid := range s.log.All() {
			s.commit(xid)
		}
		s.sweep()
		s.tight()
	}
}

// tight holds that there is one version for each row, and one entry for each in each index.
func (s *script) tight() {
	s.Helper()
	tables, indexes := s.store.Book()
	var used, entries []int
	for _, t := range tables {
		used = append(used, len(s.done[t.ID]))
	}
	for _, x := range indexes {
		entries = append(entries, len(s.done[x.Table]))
	}
	s.shows(used, entries, s.left)
}

// P12.5: what one that runs sees is the same from its beginning to its end, whatever others do, and sweep.
func TestStable(t *testing.T) {
	for seed := range int64(12) {
		s := newScript(t, 1000+seed, 6)
		for range 60 {
			s.step(3, true)
		}
		for _, xid := range s.log.All() {
			s.commit(xid)
		}
		reader := s.begin()
		l, e := s.store.Scan(reader, "t")
		indexes := s.store.Indexes(reader, "t")
		for range 60 {
			s.others(reader)
			again, e2 := s.store.Scan(reader, "t")
			if e != e2 || !same(l, again) {
				t.Fatalf("the rows have become %v, %d, they were %v, %d", again, e2, l, e)
			}
			if got := s.store.Indexes(reader, "t"); len(got) != len(indexes) {
				t.Fatalf("the indexes have become %v, they were %v", got, indexes)
			}
			for _, x := range indexes {
				if found, e := s.store.Seek(reader, x.ID, nil, nil); e != api.OK || !same(l, found) {
					t.Fatalf("Seek(%d) = %v, %d, want %v", x.ID, found, e, l)
				}
			}
		}
	}
}

// others does anything by those that run beside one.
func (s *script) others(reader uint64) {
	s.Helper()
	xid := s.begin()
	for range 1 + s.Intn(4) {
		table := s.called()
		switch s.Intn(8) {
		case 0:
			s.createIndex(xid, s.called(), table, "a")
		case 1:
			s.dropTable(xid, table)
		case 2:
			s.dropIndex(xid, table)
		case 3:
			s.createTable(xid, table, s.some())
		case 4, 5:
			s.insert(xid, table, s.values(xid, table)...)
		case 6:
			s.update(xid, table, s.row(xid, table), s.values(xid, table)...)
		case 7:
			s.delete(xid, table, s.row(xid, table))
		}
	}
	if s.Intn(3) > 0 {
		s.commit(xid)
	} else {
		s.abort(xid)
	}
	if s.Intn(3) == 0 {
		s.sweep()
	}
	if !slices.Equal(s.store.Running(), []uint64{reader}) {
		s.Fatalf("%d run", s.store.Running())
	}
}

// P12.1 to P12.3: the scripts meet each error that the calls have.
func TestScriptsMeetErrors(t *testing.T) {
	met := map[api.Errno]int{}
	for seed := range int64(10) {
		s := newScript(t, 500+seed, 2)
		for range 600 {
			s.step(4, true)
		}
		for e, n := range s.met {
			met[e] += n
		}
	}
	for _, e := range []api.Errno{api.OK, api.ErrArg, api.ErrForm, api.ErrName, api.ErrExists, api.ErrType, api.ErrConflict, api.ErrFull, api.ErrState, api.ErrNone} {
		if met[e] < 5 {
			t.Errorf("error %d was met %d times", e, met[e])
		}
	}
	t.Log(met)
}
