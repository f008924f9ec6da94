package tree_test

import (
	"bytes"
	"math"
	"math/rand"
	"slices"
	"strconv"
	"strings"
	"testing"

	"lapidary/api"
	"lapidary/samples"
	"lapidary/tree"
)

// keys lists keys, each less than those behind it.
func keys() []string {
	long := strings.Repeat("k", 599)
	return []string{
		"", "\x00", "\x00\x00", "\x00\x01", "\x00\xff", "\x01", "\x01\xff", "\x02", " ", "A", "a", "a\x00", "a\x00b", "aa", "aaa", "aab", "ab", "b", "ba",
		long, long + "\x00", long + "k", long + "\xff", "kl", "\x7f", "\x7f\xff", "\x80", "\x80\x00", "\xc3\xa9", "\xff", "\xff\x00", "\xff\xff", strings.Repeat("\xff", 599), strings.Repeat("\xff", 600),
	}
}

// places lists locations, each less than those behind it.
func places() []api.TID {
	var l []api.TID
	numbers := []int{math.MinInt, math.MinInt + 1, -1 << 32, -256, -2, -1, 0, 1, 2, 9, 10, 255, 256, 65535, 1 << 32, math.MaxInt - 1, math.MaxInt}
	for _, page := range numbers {
		for _, slot := range numbers {
			l = append(l, at(page, slot))
		}
	}
	return l
}

// ascending lists entries with all keys, each less than those behind it; every so many places are used.
func ascending(step int) []entry {
	var l []entry
	for _, k := range keys() {
		for i, p := range places() {
			if i%step == 0 {
				l = append(l, entry{k, p})
			}
		}
	}
	return l
}

// numbered is the entry with a number, less than the next one; the key has four digits, and three have the same.
func numbered(i int) entry {
	k := strconv.Itoa(10000 + i/3)
	return entry{k[1:], at(i%3, 5-i)}
}

// row lists the first n numbered entries.
func row(n int) []entry {
	var l []entry
	for i := range n {
		l = append(l, numbered(i))
	}
	return l
}

// locations lists where entries are.
func locations(l []entry) []api.TID {
	var all []api.TID
	for _, e := range l {
		all = append(all, e.at)
	}
	return all
}

// orders lists the same entries in several orders: rising, falling, mixed, from both ends, from the middle, far apart by turns.
func orders(l []entry) [][]entry {
	all := [][]entry{slices.Clone(l), slices.Clone(l), slices.Clone(l)}
	slices.Reverse(all[1])
	rand.New(rand.NewSource(int64(len(l)))).Shuffle(len(l), func(i, j int) { all[2][i], all[2][j] = all[2][j], all[2][i] })
	var ends, far []entry
	for i := range l {
		if i%2 == 0 {
			ends = append(ends, l[i/2])
		} else {
			ends = append(ends, l[len(l)-1-i/2])
		}
	}
	for start := range 17 {
		for i := start; i < len(l); i += 17 {
			far = append(far, l[i])
		}
	}
	middle := slices.Clone(ends)
	slices.Reverse(middle)
	return append(all, ends, middle, far)
}

// P8.1: what the document's example tells.
func TestExample(t *testing.T) {
	m := treeOf(t, entry{"b", at(0, 1)}, entry{"a", at(0, 2)}, entry{"b", at(0, 0)})
	if l := listed(m.tree.Scan(nil, nil)); !slices.Equal(l, []entry{{"a", at(0, 2)}, {"b", at(0, 0)}, {"b", at(0, 1)}}) {
		t.Error(l)
	}
}

// P8.1: a tree without entries, and with one.
func TestEmptyAndOne(t *testing.T) {
	m := treeOf(t)
	if m.tree.Len() != 0 || m.tree.Height() != 1 || len(m.tree.Scan(nil, nil)) != 0 {
		t.Error(m.tree.Len(), m.tree.Height())
	}
	for _, e := range ascending(23) {
		m.delete(t, e)
		m.prune(t, e.at)
		m.insert(t, e)
		if m.tree.Len() != 1 || m.tree.Height() != 1 {
			t.Fatal(m.tree.Len(), m.tree.Height())
		}
		m.check(t)
		m.delete(t, e)
		m.check(t)
	}
}

// P8.1: entries are ordered by the bytes of their keys, then by Page, then by Slot, in whatever order they were put.
func TestOrder(t *testing.T) {
	for _, step := range []int{2, 7, 100} {
		want := ascending(step)
		for i, l := range orders(want) {
			m := treeOf(t, l...)
			if got := listed(m.tree.Scan(nil, nil)); !slices.Equal(got, want) {
				t.Fatalf("step %d, order %d: %d entries, want %d", step, i, len(got), len(want))
			}
			for _, k := range keys() {
				m.checkScan(t, k, "")
				m.checkScan(t, k, k+"\x00")
			}
		}
	}
}

// P8.1: entries with one key, in several leaves, are told apart by their locations alone.
func TestEqualKeys(t *testing.T) {
	for _, k := range []string{"", "a", strings.Repeat("\xff", 600)} {
		var l []entry
		for _, p := range places() {
			l = append(l, entry{k, p})
		}
		for _, put := range orders(l) {
			m := treeOf(t, put...)
			for i, e := range put {
				m.insert(t, e)
				if i%2 == 0 {
					m.delete(t, e)
					m.delete(t, e)
				}
			}
			m.check(t)
			m.checkScan(t, k, k+"\x00")
			m.checkScan(t, k+"\x00", "")
			m.checkScan(t, "", k)
		}
	}
}

// P8.1: entries that differ in one thing alone are two.
func TestDifferInOneThing(t *testing.T) {
	first := entry{"ab", at(3, 4)}
	for _, second := range []entry{{"ab", at(3, 5)}, {"ab", at(4, 4)}, {"ab", at(4, 3)}, {"ab", at(-3, 4)}, {"ab", at(3, -4)}, {"a", at(3, 4)}, {"abc", at(3, 4)}, {"ab\x00", at(3, 4)}, {"Ab", at(3, 4)}, {"", at(3, 4)}} {
		m := treeOf(t, first)
		m.delete(t, second)
		m.check(t)
		m.insert(t, second)
		m.check(t)
		m.delete(t, first)
		m.check(t)
		m.delete(t, first)
		m.delete(t, second)
		m.check(t)
	}
}

// P8.1: a key has at most 600 bytes; one that is too long changes nothing, and is not there to be deleted.
func TestLengthsOfKeys(t *testing.T) {
	m := treeOf(t)
	for n := range 601 {
		m.insert(t, entry{strings.Repeat("a", n), at(n, 0)})
		m.insert(t, entry{strings.Repeat("\x00", n), at(0, n)})
	}
	m.check(t)
	for _, n := range []int{601, 602, 700, 856, 1200, 65536, 65537, 100000} {
		for _, c := range []string{"a", "\x00", "\xff"} {
			k := strings.Repeat(c, n)
			for _, p := range []api.TID{at(600, 0), at(0, 0), at(0, 600), at(-1, -1), at(math.MaxInt, math.MinInt)} {
				if e := m.tree.Insert(tree.Entry{Key: []byte(k), At: p}); e != api.ErrLong {
					t.Errorf("Insert of a key of %d bytes = %d", n, e)
				}
				if e := treeOf(t).tree.Insert(tree.Entry{Key: []byte(k), At: p}); e != api.ErrLong {
					t.Errorf("Insert of a key of %d bytes = %d", n, e)
				}
				m.delete(t, entry{k, p})
			}
			m.checkScan(t, k, "")
			m.checkScan(t, "", k)
			m.checkScan(t, k, k+"a")
		}
		m.check(t)
	}
	for n := range 601 {
		m.delete(t, entry{strings.Repeat("a", n), at(n, 0)})
	}
	m.check(t)
}

// P8.1: an entry is there once, is gone once, and may come again.
func TestTwice(t *testing.T) {
	for _, n := range []int{1, 2, 7, 8, 9, 64, 65, 100, 600} {
		m := treeOf(t, row(n)...)
		for range 2 {
			for i := range n {
				e := numbered((i*7 + 3) % n)
				m.insert(t, e)
				m.delete(t, e)
				m.delete(t, e)
				m.insert(t, e)
				m.insert(t, e)
			}
			m.check(t)
		}
	}
}

// P8.1: trees grow level by level, and shrink until they are empty, in whatever order; and grow again.
func TestUpAndDown(t *testing.T) {
	const n = 260
	for _, put := range orders(row(n)) {
		for _, gone := range orders(row(n)) {
			m := treeOf(t)
			for _, e := range put {
				m.insert(t, e)
			}
			m.check(t)
			for i, e := range gone {
				m.delete(t, e)
				if i%20 == 0 || i > n-20 {
					m.check(t)
				}
			}
			m.insert(t, put[0])
			m.check(t)
		}
	}
}

// P8.1: the same with so many entries that there are five levels or more.
func TestFarUpAndDown(t *testing.T) {
	const n = 5000
	l := orders(row(n))
	for i, put := range l {
		m := treeOf(t, put...)
		if h := m.tree.Height(); h < 5 {
			t.Fatal(h)
		}
		for j, e := range l[(i+1)%len(l)] {
			m.delete(t, e)
			if j%1000 == 0 {
				m.check(t)
			}
		}
		m.check(t)
	}
}

// P8.1: each step up to some hundred entries, and down again, with all that is there.
func TestEachSize(t *testing.T) {
	for _, put := range orders(row(150)) {
		m := treeOf(t)
		for _, e := range put {
			m.insert(t, e)
			m.check(t)
		}
		for _, e := range put {
			m.delete(t, e)
			m.check(t)
		}
	}
}

// P8.1: whichever two entries go, at whatever size, the others remain in order.
func TestAnyTwoGo(t *testing.T) {
	for _, n := range []int{1, 2, 8, 9, 10, 16, 17, 24, 33, 40} {
		for _, put := range orders(row(n))[:3] {
			for i := range n {
				for j := range n {
					m := treeOf(t, put...)
					m.delete(t, numbered(i))
					m.delete(t, numbered(j))
					m.check(t)
				}
			}
		}
	}
}

// P8.1: whichever stretch of entries goes, the others remain in order, and the tree is low enough.
func TestAnyStretchGoes(t *testing.T) {
	const n = 70
	for _, put := range orders(row(n))[:3] {
		for from := 0; from < n; from += 3 {
			m := treeOf(t, put...)
			for i := from; i < n; i++ {
				m.delete(t, numbered(i))
				m.check(t)
			}
			for i := from - 1; i >= 0; i-- {
				m.delete(t, numbered(i))
				m.check(t)
			}
		}
	}
}

// P8.1: a Prune of nothing, of locations that are not there, and of a tree without entries.
func TestPruneNothing(t *testing.T) {
	for _, n := range []int{0, 1, 8, 9, 100} {
		m := treeOf(t, row(n)...)
		height := m.tree.Height()
		for _, l := range [][]api.TID{nil, {}, {at(3, 0)}, {at(-1, -1), at(0, 6), at(0, 4), at(1, 5), at(2, 5), at(math.MinInt, math.MaxInt)}, {at(5, 0), at(5, 0)}} {
			if gone := m.prune(t, l...); gone != 0 || m.tree.Height() != height {
				t.Fatal(n, l, gone, m.tree.Height())
			}
		}
	}
}

// P8.1: one location may have several keys, may be listed twice, and is not another one.
func TestPruneOneLocation(t *testing.T) {
	for _, p := range places()[100:130] {
		var l []entry
		for _, k := range keys() {
			for _, q := range []api.TID{p, at(p.Slot, p.Page), at(p.Page^1, p.Slot), at(p.Page, p.Slot^1), at(-p.Page, p.Slot)} {
				if e := (entry{k, q}); !slices.Contains(l, e) {
					l = append(l, e)
				}
			}
		}
		m := treeOf(t, l...)
		if n := m.prune(t, p, p, p); n != len(keys()) {
			t.Fatal(p, n)
		}
		if n := m.prune(t, p); n != 0 {
			t.Fatal(p, n)
		}
		m.insert(t, entry{"a", p})
		if n := m.prune(t, at(77, 77), p); n != 1 {
			t.Fatal(p, n)
		}
	}
}

// P8.1: behind a Prune the tree holds what remains, is low enough, and goes on: from every size, to every size.
func TestPruneToEverySize(t *testing.T) {
	const n = 70
	for have := range n {
		for gone := range have + 1 {
			l := orders(row(have))[gone%6]
			m := treeOf(t, l...)
			if k := m.prune(t, locations(l[:gone])...); k != gone {
				t.Fatal(have, gone, k)
			}
			for i := range 9 {
				m.insert(t, numbered(i*11))
				m.delete(t, numbered(i*5))
			}
			m.check(t)
		}
	}
}

// P8.1: a Prune of all, of all but one, of every second one and so on, of large trees.
func TestPruneLargeTrees(t *testing.T) {
	const n = 2000
	for _, step := range []int{1, 2, 3, 7, 64, 1999} {
		for _, rest := range []bool{false, true} {
			m := treeOf(t, row(n)...)
			var l []entry
			for i := n - 1; i >= 0; i-- {
				if (i%step == 0) != rest {
					l = append(l, numbered(i))
				}
			}
			if k := m.prune(t, locations(l)...); k != len(l) {
				t.Fatal(step, rest, k)
			}
			for i := range n {
				if i%5 == 0 {
					m.insert(t, numbered(i))
				} else {
					m.delete(t, numbered(i))
				}
			}
			m.check(t)
		}
	}
}

// P8.1: every Scan between two keys, present or not, equal or turned about, at their edges and beyond.
func TestScan(t *testing.T) {
	bounds := append(keys(), "\x00\x00\x00", "\x03", "0", "Z", "a\x00a", "aaaa", "ac", "c", "k", "l", "\x81", strings.Repeat("\xff", 601))
	for _, step := range []int{1000, 200, 61} {
		for _, put := range orders(ascending(step)) {
			m := treeOf(t, put...)
			for _, from := range bounds {
				for _, to := range bounds {
					m.checkScan(t, from, to)
				}
			}
		}
	}
	var l []entry
	for i := 1; i < 250; i += 2 {
		l = append(l, entry{string([]byte{byte(i)}), at(i, i)})
	}
	m := treeOf(t, l...)
	for from := range 256 {
		for to := range 256 {
			m.checkScan(t, string([]byte{byte(from)}), string([]byte{byte(to)}))
		}
		m.checkScan(t, string([]byte{byte(from)}), "")
		m.checkScan(t, "", string([]byte{byte(from)}))
	}
}

// P8.1: a Scan of a tree without entries, and an entry whose key has no bytes.
func TestScanWithoutBytes(t *testing.T) {
	m := treeOf(t)
	for _, k := range keys() {
		m.checkScan(t, k, "")
		m.checkScan(t, "", k)
	}
	m.insert(t, entry{"", at(0, 0)})
	m.insert(t, entry{"", at(-1, math.MinInt)})
	m.insert(t, entry{"", at(math.MinInt, math.MinInt)})
	for _, k := range keys() {
		m.checkScan(t, k, "")
		m.checkScan(t, "", k)
	}
	for _, from := range [][]byte{nil, {}} {
		for _, to := range [][]byte{nil, {}} {
			if l := m.tree.Scan(from, to); len(l) != 3 {
				t.Error(l)
			}
		}
	}
}

// randomStep does one call of each kind now and then.
func randomStep(t *testing.T, m *model, r *rand.Rand, pick func() entry, growing bool) {
	t.Helper()
	switch n := r.Intn(100); {
	case n < 3:
		var l []api.TID
		for range r.Intn(4) {
			l = append(l, pick().at)
		}
		m.prune(t, l...)
	case n < 6:
		m.checkScan(t, pick().key, pick().key)
		m.check(t)
	case n < 66 == growing:
		m.insert(t, pick())
	case len(m.entries) > 0 && n%2 == 0:
		m.delete(t, m.entries[r.Intn(len(m.entries))])
	default:
		m.delete(t, pick())
	}
}

// P8.1: long sequences of all calls, with few keys and with many.
func TestLongSequences(t *testing.T) {
	for seed := range int64(40) {
		r := rand.New(rand.NewSource(seed))
		letters, pages := 1+r.Intn(4), 1+r.Intn(40)
		pick := func() entry {
			k := make([]byte, r.Intn(4))
			for i := range k {
				k[i] = "\x00a\x7f\xff"[r.Intn(letters)]
			}
			return entry{string(k), at(r.Intn(pages)-pages/2, r.Intn(3)-1)}
		}
		m := treeOf(t)
		for i := range 3000 {
			randomStep(t, m, r, pick, i/700%2 == 0)
		}
		m.check(t)
	}
}

// P2: two trees answer the same calls alike, and neither knows of the other.
func TestTwoTrees(t *testing.T) {
	a, b := treeOf(t), treeOf(t)
	for i := range 500 {
		e := numbered(i * 7 % 300)
		a.insert(t, e)
		b.check(t)
		b.insert(t, e)
		if i%3 == 0 {
			d := numbered(i * 11 % 300)
			a.delete(t, d)
			b.delete(t, d)
		}
		if i%50 == 0 {
			a.prune(t, numbered(i/2).at)
			b.prune(t, numbered(i/2).at)
		}
		if a.tree.Height() != b.tree.Height() {
			t.Fatal(i, a.tree.Height(), b.tree.Height())
		}
	}
	a.prune(t, b.entries[0].at, b.entries[100].at)
	b.check(t)
}

// spare gives bytes with memory behind them.
func spare(s string) []byte { return append(make([]byte, 0, len(s)+10), s...) }

// untouched holds bytes with memory behind them against what they were made of.
func untouched(p []byte, s string) bool {
	return string(p) == s && bytes.Equal(p[len(p):cap(p)], make([]byte, cap(p)-len(p)))
}

// P8.1: arguments are neither changed nor kept.
func TestArguments(t *testing.T) {
	m := treeOf(t)
	for i := range 300 {
		e := numbered(i * 7 % 300)
		i, _ := slices.BinarySearchFunc(m.entries, e, order)
		m.entries = slices.Insert(m.entries, i, e)
		k := spare(e.key)
		for _, want := range []api.Errno{api.OK, api.ErrExists} {
			if f := m.tree.Insert(tree.Entry{Key: k, At: e.at}); f != want || !untouched(k, e.key) {
				t.Fatal(f, k)
			}
		}
		samples.Fill(k)
		m.check(t)
	}
	for i := range 100 {
		e := m.entries[i*2]
		m.entries = slices.Delete(m.entries, i*2, i*2+1)
		k := spare(e.key)
		for _, want := range []api.Errno{api.OK, api.ErrNone} {
			if f := m.tree.Delete(tree.Entry{Key: k, At: e.at}); f != want || !untouched(k, e.key) {
				t.Fatal(f, k)
			}
		}
		samples.Fill(k)
		m.check(t)
	}
	from, to := spare("0010"), spare("0050")
	if l := m.tree.Scan(from, to); !slices.Equal(listed(l), m.scan("0010", "0050")) || !untouched(from, "0010") || !untouched(to, "0050") {
		t.Error(l, from, to)
	}
	samples.Fill(from)
	samples.Fill(to)
	m.check(t)
	want := []api.TID{m.entries[9].at, at(77, 77), m.entries[3].at, m.entries[9].at, m.entries[5].at}
	l := slices.Clone(want)
	m.prune(t, l[:4]...)
	if !slices.Equal(l, want) {
		t.Error(l)
	}
	clear(l)
	m.check(t)
}

// P8.1: results share no memory, neither with the tree nor with each other.
func TestResults(t *testing.T) {
	m := treeOf(t, row(100)...)
	m.insert(t, entry{"", at(0, 0)})
	m.insert(t, entry{strings.Repeat("a", 600), at(0, 0)})
	first, second := m.tree.Scan(nil, nil), m.tree.Scan([]byte("0003"), nil)
	for i := range first {
		before := listed(first)
		samples.Fill(first[i].Key)
		for j := range first {
			if j != i && string(first[j].Key) != before[j].key {
				t.Fatal(i, j, first[j].Key)
			}
		}
		first[i].At = at(-1, -1)
		m.check(t)
	}
	clear(first[:cap(first)])
	m.check(t)
	if !slices.Equal(listed(second), m.scan("0003", "")) {
		t.Error(second)
	}
	for _, e := range m.tree.Scan(nil, nil)[:50] {
		if f := m.tree.Delete(e); f != api.OK {
			t.Fatal(e, f)
		}
		samples.Fill(e.Key)
	}
	m.entries = m.entries[50:]
	m.check(t)
}

// P8.1: a nil tree has nothing, whatever it is asked for.
func TestNilTree(t *testing.T) {
	var x *tree.Tree
	for _, n := range []int{0, 1, 600, 601, 100000} {
		e := tree.Entry{Key: make([]byte, n), At: at(0, 0)}
		if f := x.Insert(e); f != api.ErrNone {
			t.Error(n, f)
		}
		if f := x.Delete(e); f != api.ErrNone {
			t.Error(n, f)
		}
		if l := x.Scan(nil, e.Key); len(l) != 0 {
			t.Error(l)
		}
	}
	if n := x.Prune([]api.TID{at(0, 0), at(-1, -1)}) + x.Prune(nil); n != 0 {
		t.Error(n)
	}
	if l := x.Scan(nil, nil); len(l) != 0 || x.Len() != 0 || x.Height() != 0 {
		t.Error(l, x.Len(), x.Height())
	}
}
