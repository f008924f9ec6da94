package broom_test

import (
	"math/rand"
	"slices"
	"testing"

	"lapidary/api"
	"lapidary/broom"
	"lapidary/clog"
	"lapidary/samples"
)

// script is a world in which transactions and brooms do anything, in any order.
type script struct {
	*world
	*rand.Rand
	told map[api.Errno]int // how often each error was
}

// newScript makes a script with so many pages and brooms, with two tables, of which one has indexes.
func newScript(t *testing.T, seed int64, pages, brooms int) *script {
	s := &script{newWorld(t, pages, brooms), rand.New(rand.NewSource(seed)), map[api.Errno]int{}}
	s.one(func(xid uint64) {
		s.createTable(xid, "t")
		s.createTable(xid, "u")
		s.createIndex(xid, "i", "t", 0)
		s.createIndex(xid, "j", "t", 1)
	})
	return s
}

// of is one of a list.
func of[T any](s *script, l ...T) T { return l[s.Intn(len(l))] }

// xid is one that runs, and now and then one that doesn't.
func (s *script) xid() uint64 {
	l := s.all(clog.Running)
	if len(l) == 0 || s.Intn(60) == 0 {
		return uint64(s.Intn(int(s.next()) + 2))
	}
	return of(s, l...)
}

// called is the name of a table, or of an index.
func (s *script) called() string { return of(s, "t", "t", "t", "t", "u", "u", "v", "i", "j", "k") }

// values are a row of few values, so that keys come again, and now and then a wide one.
func (s *script) values() []api.Value {
	l := values(int64(s.Intn(4)))
	if s.Intn(3) == 0 {
		l = wide(int64(s.Intn(4)))
	}
	if s.Intn(3) == 0 {
		l[1] = of(s, api.Value{}, samples.Text(""), samples.Text("a"))
	}
	return l
}

// turn begins a transaction or ends one.
func (s *script) turn(most int) api.Errno {
	s.Helper()
	if l := s.all(clog.Running); len(l) == 0 || len(l) < most && s.Intn(2) == 0 {
		s.begin()
		return api.OK
	}
	if s.Intn(2) == 0 {
		return s.commit(s.xid())
	}
	return s.abort(s.xid())
}

// catalog makes or drops a table or an index.
func (s *script) catalog() api.Errno {
	s.Helper()
	switch s.Intn(8) {
	case 0, 1:
		return s.createTable(s.xid(), s.called())
	case 2:
		return s.dropTable(s.xid(), s.called())
	case 3, 4, 5:
		return s.createIndex(s.xid(), s.called(), s.called(), s.Intn(3))
	}
	return s.dropIndex(s.xid(), s.called())
}

// write inserts, changes or deletes a row.
func (s *script) write() api.Errno {
	s.Helper()
	xid, table := s.xid(), s.called()
	var l []*version
	if t := s.find(xid, table, false); t != nil {
		l = s.met(xid, t)
	}
	switch k := s.Intn(6); {
	case k < 2 || len(l) == 0:
		return s.insert(xid, table, s.values())
	case k < 5:
		return s.update(xid, table, of(s, l...), s.values())
	}
	return s.delete(xid, table, of(s, l...))
}

// goOn has a broom do a step, or some.
func (s *script) goOn() {
	s.Helper()
	n := s.Intn(len(s.brooms))
	if s.Intn(12) == 0 {
		s.most(n, s.Intn(14)-1)
		return
	}
	s.step(n)
}

// act does anything.
func (s *script) act(most int) {
	s.Helper()
	switch k := s.Intn(100); {
	case k < 20:
		s.told[s.turn(most)]++
	case k < 26:
		s.told[s.catalog()]++
	case k < 65:
		s.told[s.write()]++
	case k < 98:
		s.goOn()
	default:
		s.prune()
	}
}

// run does so many things, and then has nothing run and the first broom do a whole pass, whatever the others are at.
func (s *script) run(things, most int) {
	s.Helper()
	for range things {
		s.act(most)
	}
	s.finish(0)
	s.pass(0)
	s.tight()
	for range 20 {
		for n := range s.brooms {
			s.step(n)
			s.tight()
		}
	}
}

// P13.1 to P13.3: long scripts, held at each step against the model.
func TestScripts(t *testing.T) {
	for seed := range int64(90) {
		s := newScript(t, seed, []int{2, 3, 5, 8, api.MaxPages}[seed%5], 1+int(seed)%3)
		s.run(300, 1+int(seed/5)%5)
	}
}

// P13.1 to P13.3: the scripts meet each kind of event, each error that is not one of a wrong argument, and places that were freed and taken again.
func TestScriptsMeet(t *testing.T) {
	found, told, late := map[int]int{}, map[api.Errno]int{}, 0
	for seed := range int64(12) {
		s := newScript(t, 1000+seed, 4, 2)
		s.run(500, 4)
		for _, event := range s.events {
			if event.N > 0 || event == end() {
				found[event.Kind]++
			}
		}
		for e, n := range s.told {
			told[e] += n
		}
		late += s.late
	}
	for kind := broom.Begin; kind <= broom.End; kind++ {
		if found[kind] < 20 {
			t.Errorf("the kind %d was met %d times", kind, found[kind])
		}
	}
	for _, e := range []api.Errno{api.OK, api.ErrName, api.ErrExists, api.ErrConflict, api.ErrFull, api.ErrState, api.ErrNone} {
		if told[e] < 5 {
			t.Errorf("error %d was met %d times", e, told[e])
		}
	}
	if late < 5 {
		t.Errorf("%d versions had an entry when they came to be freed", late)
	}
	t.Log(found, told, late)
}

// P2: the same calls, made again of another store, have the same events.
func TestAgain(t *testing.T) {
	for seed := range int64(4) {
		var last []broom.Event
		for n := range 2 {
			s := newScript(t, 2000+seed, 5, 2)
			s.run(200, 3)
			if n > 0 && !slices.Equal(s.events, last) {
				t.Fatalf("the events have become %v, they were %v", s.events, last)
			}
			last = s.events
		}
	}
}
