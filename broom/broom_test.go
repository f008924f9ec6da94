package broom_test

import (
	"math"
	"slices"
	"strconv"
	"testing"

	"lapidary/api"
	"lapidary/book"
	"lapidary/broom"
	"lapidary/samples"
	"lapidary/store"
)

// spoil has a transaction give a table rows that nobody will see, by aborting.
func (w *world) spoil(table string, numbers ...int64) {
	w.Helper()
	w.undone(func(xid uint64) {
		for _, n := range numbers {
			w.is(api.OK, w.insert(xid, table, values(n)))
		}
	})
}

// whole holds the events of a broom up to its End against these.
func (w *world) whole(n int, want ...broom.Event) {
	w.Helper()
	w.steps(n, want...)
	if last := want[len(want)-1]; last != end() || !w.brooms[n].Idle() {
		w.Fatalf("the pass ends with %v", last)
	}
}

// P13.1, P13.3: the example of the document.
func TestExample(t *testing.T) {
	w := filled(t, 1, 7)
	for n := range int64(2) {
		w.one(func(xid uint64) { w.is(api.OK, w.update(xid, "t", w.rows(xid, "t")[0], values(8+n))) })
	}
	w.has([]int{3}, []int{3}, 255)
	if n := w.most(0, 100); n != 5 {
		t.Errorf("the pass has %d steps", n)
	}
	w.has([]int{1}, []int{1}, 255)
	w.one(func(xid uint64) { w.holds(xid, "t", 9) })
}

// P13.1: what the kinds are.
func TestKinds(t *testing.T) {
	if l := []int{broom.Begin, broom.Gather, broom.Unlink, broom.Release, broom.End}; !slices.Equal(l, []int{0, 1, 2, 3, 4}) {
		t.Errorf("the kinds are %d", l)
	}
}

// P13.1: without tables a pass has a Begin and an End, with and without pages.
func TestNoTables(t *testing.T) {
	for _, pages := range []int{0, 1, api.MaxPages} {
		w := newWorld(t, pages, 1)
		for range 3 {
			w.whole(0, begin(0), end())
		}
		w.begin()
		w.whole(0, begin(0), end())
	}
}

// P13.1: tables without pages, without indexes and with some.
func TestNoPages(t *testing.T) {
	w := newWorld(t, 4, 1)
	xid := w.begin()
	w.createTable(xid, "t")
	w.whole(0, begin(0), release(1, 0), end())
	w.createIndex(xid, "i", "t", 0)
	w.whole(0, begin(0), unlink(1, 2, 0), release(1, 0), end())
	w.createTable(xid, "u")
	w.createIndex(xid, "j", "u", 1)
	w.createIndex(xid, "k", "t", 0)
	w.whole(0, begin(0), unlink(1, 2, 0), unlink(1, 5, 0), release(1, 0), unlink(3, 4, 0), release(3, 0), end())
	w.commit(xid)
	w.whole(0, begin(0), unlink(1, 2, 0), unlink(1, 5, 0), release(1, 0), unlink(3, 4, 0), release(3, 0), end())
}

// P13.1: tables with one page and with several, without indexes and with some; what is counted at each step.
func TestWholePass(t *testing.T) {
	w := newWorld(t, 20, 1)
	w.one(func(xid uint64) {
		for _, name := range []string{"t", "u", "v", "x"} { // 1 to 4
			w.createTable(xid, name)
		}
		w.createIndex(xid, "i", "v", 0) // 5
		w.createIndex(xid, "j", "u", 1) // 6
		w.createIndex(xid, "k", "v", 2) // 7
		for n := range int64(7) {
			w.insert(xid, "t", wide(n)) // three to a page
			w.insert(xid, "v", wide(n))
		}
		w.insert(xid, "u", values(1))
	})
	nothing := []broom.Event{begin(0), gather(1, 0), gather(1, 0), gather(1, 0), release(1, 0), gather(2, 0), unlink(2, 6, 0), release(2, 0), gather(3, 0), gather(3, 0), gather(3, 0), unlink(3, 5, 0), unlink(3, 7, 0), release(3, 0), release(4, 0), end()}
	w.whole(0, nothing...)
	w.one(func(xid uint64) {
		l := w.rows(xid, "t")
		for _, n := range []int{0, 1, 3, 6} {
			w.is(api.OK, w.delete(xid, "t", l[n]))
		}
		for _, v := range w.rows(xid, "v")[1:6] {
			w.is(api.OK, w.delete(xid, "v", v))
		}
		w.createIndex(xid, "l", "v", 1) // 8: the deleted rows may still be seen, and have entries
	})
	w.whole(0, begin(0), gather(1, 2), gather(1, 1), gather(1, 1), release(1, 4), gather(2, 0), unlink(2, 6, 0), release(2, 0),
		gather(3, 2), gather(3, 3), gather(3, 0), unlink(3, 5, 5), unlink(3, 7, 5), unlink(3, 8, 5), release(3, 5), release(4, 0), end())
	w.has([]int{3, 1, 2, 0}, []int{1, 2, 2, 2}, 13)
	w.tight()
}

// P13.1: an index that was made when versions were dead has no entries for these, so fewer are removed than are gathered.
func TestIndexOfFewer(t *testing.T) {
	w := filled(t, 1, 1, 2)
	w.spoil("t", 3, 4)
	w.one(func(xid uint64) { w.createIndex(xid, "j", "t", 0) })
	w.spoil("t", 5)
	w.whole(0, begin(0), gather(1, 3), unlink(1, 2, 3), unlink(1, 3, 1), release(1, 3), end())
	w.tight()
}

// P13.1: Begin counts the tables and indexes that are dead: of an aborted transaction, dropped, with their table.
func TestBegin(t *testing.T) {
	w := newWorld(t, 10, 1)
	w.undone(func(xid uint64) {
		w.createTable(xid, "t")
		w.insert(xid, "t", values(1))
		w.createIndex(xid, "i", "t", 0)
	})
	w.has([]int{1}, nil, 9)
	w.whole(0, begin(2), end())
	w.has(nil, nil, 10)
	w.one(func(xid uint64) {
		w.createTable(xid, "t") // 3
		w.createIndex(xid, "i", "t", 0)
		w.createIndex(xid, "j", "t", 0)
		w.insert(xid, "t", values(1))
	})
	w.one(func(xid uint64) { w.dropIndex(xid, "i") })
	w.whole(0, begin(1), gather(3, 0), unlink(3, 5, 0), release(3, 0), end())
	w.undone(func(xid uint64) { w.dropTable(xid, "t") })
	w.whole(0, begin(0), gather(3, 0), unlink(3, 5, 0), release(3, 0), end())
	looks := w.begin()
	w.one(func(xid uint64) { w.dropTable(xid, "t") })
	w.whole(0, begin(0), gather(3, 0), unlink(3, 5, 0), release(3, 0), end())
	w.holds(looks, "t", 1)
	w.commit(looks)
	w.whole(0, begin(2), end())
	w.has(nil, nil, 10)
}

// P13.1: as many tables, indexes and pages as there may be.
func TestMost(t *testing.T) {
	w := newWorld(t, api.MaxPages, 1)
	w.one(func(xid uint64) {
		for n := range api.MaxTables {
			w.is(api.OK, w.createTable(xid, "t"+strconv.Itoa(n)))
		}
		for n := range api.MaxIndexes {
			w.is(api.OK, w.createIndex(xid, "i"+strconv.Itoa(n), "t15", n%3))
		}
	})
	xid, _ := w.store.Begin()
	for range 3 * api.MaxPages {
		w.is(api.OK, w.store.Insert(xid, "t15", wide(1)))
	}
	w.is(api.ErrFull, w.store.Insert(xid, "t15", wide(1)))
	w.store.Abort(xid)
	b := broom.New(w.store)
	if n := b.Pass(10000); n != 1+15+api.MaxPages+api.MaxIndexes+1+1 {
		t.Errorf("the pass has %d steps", n)
	}
	if used, entries := w.store.Used(), w.store.Entries(); slices.Max(used) != 0 || slices.Max(entries) != 0 || w.store.Left() != 0 {
		t.Errorf("there are %d versions, %d entries", used, entries)
	}
}

// P13.1: a table that is made within a pass is left to the next one; one that was made before it counts, committed or not.
func TestTablesMade(t *testing.T) {
	w := filled(t, 1, 1)
	xid := w.begin()
	w.createTable(xid, "u") // 3
	w.steps(0, begin(0))
	w.createTable(xid, "v") // 4
	w.insert(xid, "v", values(1))
	w.steps(0, gather(1, 0))
	w.createTable(xid, "x") // 5
	w.steps(0, unlink(1, 2, 0), release(1, 0))
	w.createTable(xid, "y") // 6
	w.steps(0, release(3, 0))
	w.createTable(xid, "z") // 7
	w.steps(0, end())
	w.commit(xid)
	w.whole(0, begin(0), gather(1, 0), unlink(1, 2, 0), release(1, 0), release(3, 0), gather(4, 0), release(4, 0), release(5, 0), release(6, 0), release(7, 0), end())
}

// P13.1: a table that is dropped within a pass, or whose maker aborts, is gone over to its end, and is pruned by the next Begin.
func TestTablesDropped(t *testing.T) {
	for steps := range 5 {
		w := filled(t, 1, 1)
		w.spoil("t", 2)
		maker := w.begin()
		w.createTable(maker, "u") // 3
		w.insert(maker, "u", values(1))
		w.insert(maker, "u", values(2))
		w.createIndex(maker, "j", "u", 0) // 4
		pass := []broom.Event{begin(0), gather(1, 1), unlink(1, 2, 1), release(1, 1), gather(3, 0), unlink(3, 4, 0), release(3, 0), end()}
		w.steps(0, pass[:steps]...)
		w.one(func(xid uint64) { w.dropTable(xid, "t") })
		w.steps(0, pass[steps:]...)
		w.commit(maker)
		w.whole(0, begin(2), gather(3, 0), unlink(3, 4, 0), release(3, 0), end())
	}
	w := filled(t, 1)
	maker := w.begin()
	w.createTable(maker, "u") // 3
	w.insert(maker, "u", values(1))
	w.insert(maker, "u", values(2))
	w.steps(0, begin(0), unlink(1, 2, 0))
	w.abort(maker)
	w.steps(0, release(1, 0), gather(3, 2), release(3, 2), end())
	w.has([]int{0, 0}, []int{0}, 255)
	w.whole(0, begin(1), unlink(1, 2, 0), release(1, 0), end())
	w.has([]int{0}, []int{0}, 256)
}

// P13.1: a table that is pruned within a pass, by another broom or otherwise, has nothing any more at each of its steps, and no indexes.
func TestTablesPruned(t *testing.T) {
	pass := []broom.Event{begin(0), gather(1, 0), gather(1, 0), unlink(1, 2, 0), unlink(1, 3, 0), release(1, 0), end()}
	for steps := 1; steps < len(pass); steps++ {
		for _, other := range []bool{false, true} {
			w := filled(t, 2)
			w.one(func(xid uint64) {
				w.createIndex(xid, "j", "t", 1) // 3
				for n := range int64(4) {
					w.insert(xid, "t", wide(n))
				}
			})
			w.steps(0, pass[:steps]...)
			w.one(func(xid uint64) { w.dropTable(xid, "t") })
			if other {
				w.whole(1, begin(3), end())
			} else if n := w.prune(); n != 3 {
				t.Errorf("Prune = %d", n)
			}
			rest := slices.Clone(pass[steps:])
			if steps <= 3 {
				rest = slices.DeleteFunc(rest, func(e broom.Event) bool { return e.Kind == broom.Unlink })
			}
			w.whole(0, rest...)
			w.has(nil, nil, 256)
		}
	}
}

// P13.1: pages that come within a pass, of a table that it is at or is yet to come to, are left to the next one.
func TestPagesMade(t *testing.T) {
	w := newWorld(t, 20, 1)
	w.one(func(xid uint64) {
		w.createTable(xid, "t")
		w.createTable(xid, "u")
		w.insert(xid, "t", wide(1))
	})
	fill := func(table string) {
		w.undone(func(xid uint64) {
			for n := range int64(6) {
				w.is(api.OK, w.insert(xid, table, wide(n)))
			}
		})
	}
	w.steps(0, begin(0))
	fill("t") // two to the first page, three and one to others
	fill("u")
	w.steps(0, gather(1, 2))
	fill("t")
	w.steps(0, release(1, 2), release(2, 0), end())
	w.has([]int{11, 6}, nil, 13)
	w.whole(0, begin(0), gather(1, 0), gather(1, 3), gather(1, 3), gather(1, 3), gather(1, 1), release(1, 10), gather(2, 3), gather(2, 3), release(2, 6), end())
	w.has([]int{1, 0}, nil, 13)
	w.tight()
}

// P13.1: what dies on a page behind its Gather is left to the next pass, what dies ahead of it is not.
func TestDiesWithin(t *testing.T) {
	w := newWorld(t, 20, 1)
	w.one(func(xid uint64) {
		w.createTable(xid, "t")
		w.createIndex(xid, "i", "t", 0)
		for n := range int64(6) {
			w.insert(xid, "t", wide(n))
		}
	})
	remove := func(n int) {
		w.one(func(xid uint64) { w.is(api.OK, w.delete(xid, "t", w.rows(xid, "t")[n])) })
	}
	w.steps(0, begin(0), gather(1, 0))
	remove(0)
	remove(3)
	w.steps(0, gather(1, 1))
	remove(3)
	w.steps(0, unlink(1, 2, 1))
	remove(0)
	w.steps(0, release(1, 1), end())
	w.has([]int{5}, []int{5}, 18)
	w.whole(0, begin(0), gather(1, 2), gather(1, 1), unlink(1, 2, 3), release(1, 3), end())
	w.tight()
}

// P13.1: the indexes are those that there are at the first Unlink of their table.
func TestIndexesMade(t *testing.T) {
	w := filled(t, 1, 1, 2)
	w.spoil("t", 3)
	xid := w.begin()
	w.createTable(xid, "u") // 3
	w.steps(0, begin(0))
	w.createIndex(xid, "j", "t", 0) // 4, without what is dead
	w.steps(0, gather(1, 1))
	w.createIndex(xid, "k", "t", 1) // 5
	w.steps(0, unlink(1, 2, 1))
	w.createIndex(xid, "l", "t", 2) // 6, too late
	w.steps(0, unlink(1, 4, 0), unlink(1, 5, 0))
	w.createIndex(xid, "m", "t", 2) // 7, too late
	w.createIndex(xid, "n", "u", 2) // 8
	w.steps(0, release(1, 1), unlink(3, 8, 0), release(3, 0), end())
	w.commit(xid)
	w.whole(0, begin(0), gather(1, 0), unlink(1, 2, 0), unlink(1, 4, 0), unlink(1, 5, 0), unlink(1, 6, 0), unlink(1, 7, 0), release(1, 0), unlink(3, 8, 0), release(3, 0), end())
	w.tight()
}

// P13.1: an index that is made where there was none behind the last Gather counts, one that is made behind the Release does not.
func TestFirstIndex(t *testing.T) {
	w := newWorld(t, 4, 1)
	w.one(func(xid uint64) { w.createTable(xid, "t") })
	w.spoil("t", 1, 2)
	xid := w.begin()
	w.steps(0, begin(0), gather(1, 2), release(1, 2))
	w.createIndex(xid, "i", "t", 0)
	w.steps(0, end())
	w.abort(xid)
	w.spoil("t", 1, 2)
	w.steps(0, begin(1), gather(1, 2))
	w.one(func(xid uint64) { w.createIndex(xid, "i", "t", 0) })
	w.steps(0, unlink(1, 3, 0), release(1, 2), end())
}

// P13.1: an index that is dropped is unlinked as long as it is in the book, one whose maker has aborted if it was listed before; once it is pruned, nothing is there to be removed.
func TestIndexesDropped(t *testing.T) {
	w := filled(t, 1, 1, 2)
	w.spoil("t", 3)
	looks := w.begin()
	w.one(func(xid uint64) { w.dropIndex(xid, "i") })
	w.whole(0, begin(0), gather(1, 1), unlink(1, 2, 1), release(1, 1), end())
	w.holds(looks, "t", 1, 2)
	maker := w.begin()
	w.createIndex(maker, "i", "t", 0) // 3
	w.spoil("t", 4, 5)
	w.steps(0, begin(0), gather(1, 2), unlink(1, 2, 2))
	w.abort(maker)
	w.steps(0, unlink(1, 3, 2), release(1, 2))
	w.commit(looks)
	w.steps(0, end(), begin(2), gather(1, 0), release(1, 0), end())
	maker = w.begin()
	w.createIndex(maker, "i", "t", 0) // 4
	w.spoil("t", 4)
	w.steps(0, begin(0), gather(1, 1))
	w.abort(maker)
	w.steps(0, release(1, 1), end())
}

// P13.1: an index that is pruned between two Unlinks keeps its step.
func TestIndexesPruned(t *testing.T) {
	w := filled(t, 2, 1)
	w.one(func(xid uint64) {
		w.createIndex(xid, "j", "t", 0) // 3
		w.createIndex(xid, "k", "t", 0) // 4
	})
	w.spoil("t", 2)
	w.steps(0, begin(0), gather(1, 1), unlink(1, 2, 1))
	w.one(func(xid uint64) {
		w.dropIndex(xid, "i")
		w.dropIndex(xid, "j")
	})
	w.steps(1, begin(2))
	w.steps(0, unlink(1, 3, 0), unlink(1, 4, 1), release(1, 1), end())
	w.steps(1, gather(1, 0), unlink(1, 4, 0), release(1, 0), end())
	w.tight()
}

// P13.1: Pass does steps up to an End, at most so many, wherever in a pass the broom is.
func TestPass(t *testing.T) {
	const steps = 5
	for done := range steps {
		for _, c := range []struct{ most, want int }{{math.MinInt, 0}, {math.MinInt32, 0}, {-256, 0}, {-1, 0}, {0, 0}, {1, 1}, {2, 2}, {3, 3}, {4, 4}, {5, 5}, {6, 5}, {7, 5}, {10, 5}, {256, 5}, {1 << 32, 5}, {math.MaxInt, 5}} {
			w := filled(t, 1, 1, 2)
			w.spoil("t", 3)
			for range done {
				w.step(0)
			}
			want := min(c.want, steps-done)
			if n := w.most(0, c.most); n != want {
				t.Errorf("behind %d steps Pass(%d) = %d, want %d", done, c.most, n, want)
			}
			if ended := done+want == steps; w.brooms[0].Idle() != ended && done+want > 0 || (w.brooms[0].Passes() == 1) != ended {
				t.Errorf("behind %d steps and Pass(%d) the broom is at %v, %d", done, c.most, w.brooms[0].Idle(), w.brooms[0].Passes())
			}
			if n := w.most(0, 100); n != steps-(done+want)%steps {
				t.Errorf("behind %d steps and Pass(%d) the rest of the pass has %d steps", done, c.most, n)
			}
			w.tight()
		}
	}
}

// P13.1: Pass of a store without tables: two steps.
func TestShortPass(t *testing.T) {
	w := newWorld(t, 0, 1)
	for _, c := range []struct{ most, want int }{{2, 2}, {3, 2}, {1, 1}, {1, 1}, {1, 1}, {2, 1}, {math.MaxInt, 2}, {0, 0}} {
		if n := w.most(0, c.most); n != c.want {
			t.Errorf("Pass(%d) = %d, want %d", c.most, n, c.want)
		}
	}
}

// P13.1: Idle and Passes ahead of the first step, behind Begin, within a pass, and behind End.
func TestIdle(t *testing.T) {
	w := filled(t, 1, 1)
	is := func(idle bool, passes int) {
		t.Helper()
		if got, n := w.brooms[0].Idle(), w.brooms[0].Passes(); got != idle || n != passes {
			t.Errorf("Idle is %v, Passes %d, want %v, %d", got, n, idle, passes)
		}
	}
	is(true, 0)
	for n := range 4 {
		for _, event := range []broom.Event{begin(0), gather(1, 0), unlink(1, 2, 0), release(1, 0)} {
			w.steps(0, event)
			is(false, n)
		}
		w.steps(0, end())
		is(true, n+1)
		w.one(func(xid uint64) { w.holds(xid, "t", 1) })
		w.most(0, 0)
		w.most(0, -1)
		is(true, n+1)
	}
	w.most(0, 1000)
	is(true, 5)
	w.most(0, 4)
	is(false, 5)
	w.most(0, 1000)
	is(true, 6)
}

// P13.1: two brooms over one store have each its own pass; what one has freed the other does not count.
func TestTwoBrooms(t *testing.T) {
	w := filled(t, 2, 1, 2, 3)
	w.one(func(xid uint64) {
		for _, v := range w.rows(xid, "t")[1:] {
			w.is(api.OK, w.update(xid, "t", v, values(9)))
		}
	})
	w.steps(0, begin(0))
	w.steps(1, begin(0), gather(1, 2))
	w.steps(0, gather(1, 2))
	w.steps(1, unlink(1, 2, 2))
	w.steps(0, unlink(1, 2, 0), release(1, 2))
	w.steps(1, release(1, 0))
	w.steps(0, end())
	if w.brooms[0].Passes() != 1 || w.brooms[1].Passes() != 0 || !w.brooms[0].Idle() || w.brooms[1].Idle() {
		t.Error("the brooms are not apart")
	}
	w.steps(0, begin(0))
	w.steps(1, end(), begin(0))
	w.tight()
}

// P13.2, P13.3: places that were gathered, freed by another broom and taken again, before and behind each step, by a version that somebody sees, or that nobody will see.
func TestTakenAgain(t *testing.T) {
	for steps := range 5 {
		for _, lasts := range []bool{true, false} {
			w := filled(t, 2, 1, 2)
			w.one(func(xid uint64) { w.createIndex(xid, "j", "t", 1) }) // 3
			w.one(func(xid uint64) {
				for _, v := range w.rows(xid, "t") {
					w.is(api.OK, w.delete(xid, "t", v))
				}
			})
			pass := []broom.Event{begin(0), gather(1, 2), unlink(1, 2, 2), unlink(1, 3, 2), release(1, 2), end()}
			w.steps(0, pass[:steps]...)
			w.pass(1)
			w.has([]int{0}, []int{0, 0}, 255)
			xid := w.begin()
			for n := range int64(2) {
				w.is(api.OK, w.insert(xid, "t", values(5+n)))
				if at := w.rows(xid, "t")[n].at; at != (api.TID{Slot: int(n)}) {
					t.Fatalf("the version is at %v", at)
				}
			}
			want := slices.Clone(pass)
			if lasts {
				for i := range want {
					want[i].N = 0 // the versions there are seen, and nothing is done to them
				}
				w.steps(0, want[steps:]...)
				w.holds(xid, "t", 5, 6)
				w.commit(xid)
				w.one(func(xid uint64) { w.holds(xid, "t", 5, 6) })
			} else {
				w.abort(xid)
				w.steps(0, want[steps:]...)
			}
			w.pass(0)
			w.tight()
		}
	}
}

// P13.3: a version that died where another broom had freed one behind its Unlink is freed with its entries, those of an index that was made since then, too.
func TestTakenAgainBehindUnlink(t *testing.T) {
	w := filled(t, 2, 1)
	w.spoil("t", 2)
	w.steps(0, begin(0), gather(1, 1), unlink(1, 2, 1))
	w.pass(1)
	maker := w.begin()
	w.createIndex(maker, "j", "t", 0) // 3
	w.spoil("t", 3)
	w.has([]int{2}, []int{2, 2}, 255)
	w.steps(0, release(1, 1))
	w.has([]int{1}, []int{1, 1}, 255)
	w.commit(maker)
	w.steps(0, end())
	w.pass(0)
	w.tight()
	w.one(func(xid uint64) {
		w.is(api.OK, w.insert(xid, "t", values(4))) // it lies there now, with another key
		w.holds(xid, "t", 1, 4)
	})
	w.pass(0)
	w.tight()
}

// P13.2: places that were unlinked and released by other calls than a broom's, and taken again.
func TestFreedByOthers(t *testing.T) {
	w := filled(t, 1, 1)
	w.spoil("t", 2, 3)
	s := w.store
	b := broom.New(s)
	if got := []broom.Event{b.Step(), b.Step()}; !slices.Equal(got, []broom.Event{begin(0), gather(1, 2)}) {
		t.Fatal(got)
	}
	if l := s.Gather(1, 0); s.Unlink(2, l) != 2 || s.Release(1, l) != 2 {
		t.Fatal("the places were not freed")
	}
	xid, _ := s.Begin()
	s.Insert(xid, "t", values(4))
	if got := []broom.Event{b.Step(), b.Step(), b.Step()}; !slices.Equal(got, []broom.Event{unlink(1, 2, 0), release(1, 0), end()}) {
		t.Error(got)
	}
	l, _ := s.Scan(xid, "t")
	found, _ := s.Seek(xid, 2, nil, nil)
	if want := []int64{1, 4}; !slices.Equal(firsts(l), want) || !slices.Equal(firsts(found), want) {
		t.Errorf("there are %v, %v", l, found)
	}
	if u, e := s.Used(), s.Entries(); u[0] != 2 || e[0] != 2 {
		t.Errorf("there are %d versions, %d entries", u, e)
	}
}

// P13.2: one that began before others changed a row sees it as it was, at each step of each pass; once it has ended, what it saw is swept out.
func TestOldSnapshot(t *testing.T) {
	w := filled(t, 1, 1, 2, 3)
	looks := w.begin()
	for n := range int64(5) {
		w.one(func(xid uint64) {
			w.is(api.OK, w.update(xid, "t", w.rows(xid, "t")[0], values(10+n)))
			w.is(api.OK, w.insert(xid, "t", values(20+n)))
		})
		w.one(func(xid uint64) { w.is(api.OK, w.delete(xid, "t", w.rows(xid, "t")[1])) })
		if l := w.pass(0); slices.ContainsFunc(l, func(e broom.Event) bool { return e.N > 0 }) {
			t.Errorf("the pass has %v", l)
		}
		w.holds(looks, "t", 1, 2, 3)
	}
	before := w.begin()
	w.commit(looks)
	w.pass(0)
	w.has([]int{13}, []int{13}, 254) // before began while looks was running
	w.abort(before)
	w.pass(0)
	w.has([]int{3}, []int{3}, 254)
	w.tight()
}

// P13.2: of two that change a row the second gets the same error at each step of a pass, and one that has ended a row itself, too.
func TestSameErrors(t *testing.T) {
	w := filled(t, 1, 1, 2)
	w.spoil("t", 8, 9)
	first, second, third := w.begin(), w.begin(), w.begin()
	one, two := w.rows(first, "t")[0], w.rows(first, "t")[1]
	w.is(api.OK, w.update(first, "t", one, values(3)))
	w.is(api.OK, w.delete(third, "t", two))
	for range 12 {
		w.step(0)
		w.is(api.ErrConflict, w.update(second, "t", one, values(4)))
		w.is(api.ErrConflict, w.delete(second, "t", one))
		w.is(api.ErrState, w.update(first, "t", one, values(5)))
		w.is(api.ErrState, w.delete(third, "t", two))
		w.is(api.ErrConflict, w.delete(first, "t", two))
		w.is(api.ErrName, w.insert(second, "u", values(1)))
	}
	w.commit(first)
	w.abort(third)
	for range 12 {
		w.step(0)
		w.is(api.ErrConflict, w.update(second, "t", one, values(4)))
		w.is(api.ErrNone, w.delete(third, "t", two))
	}
	w.is(api.OK, w.update(second, "t", two, values(6)))
	w.finish(0)
	w.pass(0)
	w.tight()
	w.one(func(xid uint64) { w.holds(xid, "t", 3, 6) })
}

// P13.2: names are as free, taken or contested at each step of a pass as they were, while tables and indexes come and go.
func TestSameNames(t *testing.T) {
	w := filled(t, 1, 1)
	looks, drops, makes := w.begin(), w.begin(), w.begin()
	w.is(api.OK, w.dropTable(drops, "t"))
	w.is(api.OK, w.createTable(makes, "u"))
	asks := func(t, u, i api.Errno) {
		w.Helper()
		for range 9 {
			w.step(0)
			w.is(t, w.createTable(looks, "t"))
			w.is(u, w.createIndex(looks, "u", "t", 0))
			w.is(i, w.createTable(looks, "i"))
			w.is(api.ErrConflict, w.dropTable(looks, "t"))
			w.is(api.ErrConflict, w.dropIndex(looks, "i"))
		}
	}
	asks(api.ErrExists, api.ErrConflict, api.ErrExists)
	w.commit(drops)
	asks(api.ErrExists, api.ErrConflict, api.ErrExists)
	w.commit(makes)
	asks(api.ErrExists, api.ErrConflict, api.ErrExists)
	late := w.begin()
	w.commit(looks)
	for range 9 {
		w.step(0)
		w.is(api.ErrExists, w.createTable(late, "u"))
		w.is(api.ErrName, w.dropTable(late, "t"))
		w.is(api.ErrName, w.dropIndex(late, "i"))
	}
	w.is(api.OK, w.createTable(late, "t"))
	w.is(api.OK, w.createIndex(late, "i", "t", 1))
}

// P13.2: there may be more room: pages of a pruned table, places that were freed, and one more table and index where there were as many as there may be.
func TestMoreRoom(t *testing.T) {
	w := newWorld(t, 2, 1)
	w.one(func(xid uint64) {
		for n := range api.MaxTables {
			w.is(api.OK, w.createTable(xid, "t"+strconv.Itoa(n)))
		}
		for n := range api.MaxIndexes {
			w.is(api.OK, w.createIndex(xid, "i"+strconv.Itoa(n), "t"+strconv.Itoa(n), 0))
		}
		w.is(api.OK, w.insert(xid, "t0", wide(1)))
	})
	w.undone(func(xid uint64) {
		for range 2 {
			w.is(api.OK, w.insert(xid, "t0", wide(2)))
		}
		for range 3 {
			w.is(api.OK, w.insert(xid, "t1", wide(3)))
		}
	})
	xid := w.begin()
	full := func(want api.Errno, table string) { w.Helper(); w.is(want, w.insert(xid, table, wide(4))) }
	full(api.ErrFull, "t0")
	full(api.ErrFull, "t2")
	w.is(api.ErrFull, w.createTable(xid, "more"))
	w.steps(0, begin(0), gather(1, 2), unlink(1, 17, 2))
	full(api.ErrFull, "t0")
	w.steps(0, release(1, 2))
	full(api.OK, "t0")
	full(api.OK, "t0")
	full(api.ErrFull, "t0")
	w.commit(xid)
	w.one(func(xid uint64) { w.is(api.OK, w.dropTable(xid, "t1")) })
	xid = w.begin()
	full(api.ErrFull, "t2")
	w.is(api.ErrFull, w.createTable(xid, "more"))
	w.finish(0)
	xid = w.begin()
	w.steps(0, begin(2))
	full(api.OK, "t2")
	w.is(api.OK, w.createTable(xid, "more"))
	w.is(api.OK, w.createIndex(xid, "most", "more", 0))
	w.is(api.ErrFull, w.createTable(xid, "most_of_all"))
}

// P13.3: a row that is updated many times, by transactions that commit, that abort and that run; then deleted.
func TestChangedManyTimes(t *testing.T) {
	w := filled(t, 1, 0, 100)
	w.one(func(xid uint64) { w.createIndex(xid, "j", "t", 2) })
	for n := range int64(6) {
		w.one(func(xid uint64) { w.is(api.OK, w.update(xid, "t", w.rows(xid, "t")[0], values(n))) })
		w.undone(func(xid uint64) {
			w.is(api.OK, w.update(xid, "t", w.rows(xid, "t")[0], values(-n)))
			w.is(api.OK, w.update(xid, "t", w.rows(xid, "t")[0], wide(-n)))
		})
		w.undone(func(xid uint64) { w.is(api.OK, w.delete(xid, "t", w.rows(xid, "t")[0])) })
	}
	runs := w.begin()
	w.is(api.OK, w.update(runs, "t", w.rows(runs, "t")[0], values(7)))
	w.is(api.OK, w.update(runs, "t", w.rows(runs, "t")[0], values(8)))
	w.pass(0)
	w.has([]int{4}, []int{4, 4}, 252) // two rows, and two versions of the one that runs
	w.abort(runs)
	w.pass(0)
	w.has([]int{2}, []int{2, 2}, 252)
	w.one(func(xid uint64) {
		w.holds(xid, "t", 5, 100)
		w.is(api.OK, w.update(xid, "t", w.rows(xid, "t")[0], values(9)))
		w.is(api.OK, w.delete(xid, "t", w.rows(xid, "t")[0]))
	})
	w.pass(0)
	w.has([]int{1}, []int{1, 1}, 252)
	w.one(func(xid uint64) { w.holds(xid, "t", 100) })
	w.tight()
}

// P13.3: a pass of which only a part was executed while none runs leaves no more than what died meanwhile; a whole one leaves nothing.
func TestPartlyAlone(t *testing.T) {
	for steps := range 6 {
		w := filled(t, 1, 1, 2)
		w.one(func(xid uint64) { w.is(api.OK, w.update(xid, "t", w.rows(xid, "t")[0], values(3))) })
		looks := w.begin()
		w.one(func(xid uint64) { w.is(api.OK, w.update(xid, "t", w.rows(xid, "t")[0], values(4))) })
		for range steps {
			w.step(0)
		}
		w.commit(looks)
		w.finish(0)
		w.pass(0)
		w.tight()
		w.has([]int{2}, []int{2}, 255)
	}
}

// P13.3: rows that are changed round by round, with a pass behind each round, take no page more.
func TestRounds(t *testing.T) {
	w := filled(t, 1, 1, 2, 3, 4, 5)
	w.one(func(xid uint64) { w.createIndex(xid, "j", "t", 1) })
	var left []int
	for n := range int64(150) {
		w.one(func(xid uint64) {
			for i, v := range w.rows(xid, "t") {
				w.is(api.OK, w.update(xid, "t", v, wide(n*int64(i))))
			}
			w.is(api.OK, w.insert(xid, "t", wide(-n)))
		})
		w.undone(func(xid uint64) { w.is(api.OK, w.insert(xid, "t", wide(n))) })
		w.one(func(xid uint64) { w.is(api.OK, w.delete(xid, "t", w.rows(xid, "t")[n%6])) })
		w.pass(0)
		w.has([]int{5}, []int{5, 5}, w.store.Left())
		left = append(left, w.store.Left())
		w.shorten()
	}
	if left[3] != left[149] || left[149] < 250 {
		t.Errorf("the pages left are %d", left)
	}
	w.tight()
}

// P13.3: the tables of a pass, each with the rows of the latest committed state.
func TestSeveralTables(t *testing.T) {
	w := newWorld(t, 30, 1)
	w.one(func(xid uint64) {
		for n, name := range []string{"t", "u", "v"} {
			w.createTable(xid, name)
			for column := range n {
				w.createIndex(xid, name+"_"+strconv.Itoa(column), name, column)
			}
			for i := range int64(5) {
				w.insert(xid, name, wide(i))
			}
		}
	})
	w.one(func(xid uint64) {
		for n, name := range []string{"t", "u", "v"} {
			for i, v := range w.rows(xid, name) {
				if i <= n {
					w.is(api.OK, w.delete(xid, name, v))
				} else {
					w.is(api.OK, w.update(xid, name, v, values(int64(10*i))))
				}
			}
		}
	})
	w.pass(0)
	w.has([]int{4, 3, 2}, []int{3, 2, 2}, w.store.Left())
	w.one(func(xid uint64) {
		w.holds(xid, "t", 10, 20, 30, 40)
		w.holds(xid, "u", 20, 30, 40)
		w.holds(xid, "v", 30, 40)
	})
	w.tight()
}

// P13.1: a nil broom, and one of a nil store.
func TestNil(t *testing.T) {
	for _, b := range []*broom.Broom{nil, broom.New(nil)} {
		for range 3 {
			if event := b.Step(); event != (broom.Event{}) {
				t.Errorf("Step = %v", event)
			}
			for _, most := range []int{math.MinInt, -1, 0, 1, 2, 100, math.MaxInt} {
				if n := b.Pass(most); n != 0 {
					t.Errorf("Pass(%d) = %d", most, n)
				}
			}
			if b.Idle() || b.Passes() != 0 {
				t.Errorf("Idle is %v, Passes %d", b.Idle(), b.Passes())
			}
		}
	}
}

// P13.1: a broom that is made, and asked, does nothing to its store.
func TestNewOnly(t *testing.T) {
	w := filled(t, 0, 1, 2)
	w.spoil("t", 3)
	w.undone(func(xid uint64) { w.createTable(xid, "u") })
	for range 3 {
		b := broom.New(w.store)
		if !b.Idle() || b.Passes() != 0 || b.Pass(0) != 0 || b.Pass(-1) != 0 || !b.Idle() {
			t.Error("the broom is not new")
		}
		w.check()
		w.has([]int{3, 0}, []int{3}, 255)
	}
}

// Memory: what a broom has been told by its store it does not share with those who ask the store, before and behind.
func TestMemory(t *testing.T) {
	w := filled(t, 1, 1, 2)
	w.spoil("t", 3, 4)
	overwrite := func() {
		tables, indexes := w.store.Book()
		for i := range tables {
			tables[i] = book.Table{ID: 99}
		}
		for i := range indexes {
			indexes[i] = book.Index{ID: 99, Table: 99}
		}
		l := w.store.Gather(1, 0)
		for i := range l {
			l[i] = api.TID{}
		}
	}
	xid := w.begin()
	row := store.Row{ID: w.rows(xid, "t")[0].row, At: w.rows(xid, "t")[0].at}
	for _, event := range []broom.Event{begin(0), gather(1, 2), unlink(1, 2, 2), release(1, 2), end()} {
		overwrite()
		got := w.step(0)
		if got != event {
			t.Errorf("the step is %v, want %v", got, event)
		}
		got.N, got.Table, got.Index = 99, 99, 99
		overwrite()
	}
	l := values(7)
	w.is(api.OK, w.store.Update(xid, "t", row, l))
	l[0] = samples.Number(8)
	w.brooms[0].Pass(100)
	rows, _ := w.store.Scan(xid, "t")
	rows[1].Values[0] = samples.Number(9)
	w.brooms[0].Pass(100)
	rows, _ = w.store.Scan(xid, "t")
	found, _ := w.store.Seek(xid, 2, nil, nil)
	if want := []int64{7, 2}; !slices.Equal(firsts(rows), want) || !slices.Equal(firsts(found), want) {
		t.Errorf("there are %v, %v", rows, found)
	}
}
