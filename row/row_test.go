package row

import (
	"bytes"
	"math"
	"slices"
	"strings"
	"testing"

	"lapidary/api"
	"lapidary/samples"
)

var (
	null                = api.Value{}
	number, text, truth = samples.Number, samples.Text, samples.Truth
)

// times is n kinds k.
func times(n int, k api.Kind) []api.Kind { return slices.Repeat([]api.Kind{k}, n) }

// letters is a text of n bytes.
func letters(n int) api.Value { return text(strings.Repeat("x", n)) }

// wrongKinds lists kinds that no columns have.
func wrongKinds() [][]api.Kind {
	return [][]api.Kind{
		nil, {},
		{api.Null}, {4}, {255},
		{api.Int, api.Null}, {api.Null, api.Text}, {api.Bool, 4, api.Int}, {api.Int, api.Int, api.Int, api.Int, api.Int, api.Int, api.Int, api.Null},
		times(9, api.Int), times(9, api.Bool), times(16, api.Text), times(1000, api.Bool), times(9, api.Null),
	}
}

// sample is a row beside its encoding.
type sample struct {
	kinds []api.Kind
	l     []api.Value
	p     string
}

// written are rows whose encodings are written out.
func written() []sample {
	i, x, b := api.Int, api.Text, api.Bool
	sixty := strings.Repeat("x", 60)
	return []sample{
		{[]api.Kind{i, x}, []api.Value{number(1), text("a")}, "\x00\x01\x00\x00\x00\x00\x00\x00\x00\x01a"},
		{[]api.Kind{i, x}, []api.Value{null, null}, "\x03"},
		{[]api.Kind{i, x}, []api.Value{null, text("a")}, "\x01\x01a"},
		{[]api.Kind{i, x}, []api.Value{number(2), null}, "\x02\x02\x00\x00\x00\x00\x00\x00\x00"},
		{[]api.Kind{i}, []api.Value{null}, "\x01"},
		{[]api.Kind{i}, []api.Value{number(0)}, "\x00\x00\x00\x00\x00\x00\x00\x00\x00"},
		{[]api.Kind{i}, []api.Value{number(-1)}, "\x00\xff\xff\xff\xff\xff\xff\xff\xff"},
		{[]api.Kind{i}, []api.Value{number(-2)}, "\x00\xfe\xff\xff\xff\xff\xff\xff\xff"},
		{[]api.Kind{i}, []api.Value{number(math.MaxInt64)}, "\x00\xff\xff\xff\xff\xff\xff\xff\x7f"},
		{[]api.Kind{i}, []api.Value{number(math.MinInt64)}, "\x00\x00\x00\x00\x00\x00\x00\x00\x80"},
		{[]api.Kind{i}, []api.Value{number(0x0102030405060708)}, "\x00\x08\x07\x06\x05\x04\x03\x02\x01"},
		{[]api.Kind{x}, []api.Value{text("")}, "\x00\x00"},
		{[]api.Kind{x}, []api.Value{text("\u00e9\x01")}, "\x00\x03\xc3\xa9\x01"},
		{[]api.Kind{x}, []api.Value{text(sixty)}, "\x00\x3c" + sixty},
		{[]api.Kind{x}, []api.Value{null}, "\x01"},
		{[]api.Kind{b}, []api.Value{truth(false)}, "\x00\x00"},
		{[]api.Kind{b}, []api.Value{truth(true)}, "\x00\x01"},
		{[]api.Kind{b}, []api.Value{null}, "\x01"},
		{[]api.Kind{b, x, i}, []api.Value{truth(true), text("bc"), number(256)}, "\x00\x01\x02bc\x00\x01\x00\x00\x00\x00\x00\x00"},
		{[]api.Kind{x, x, x}, []api.Value{text(""), text("a"), text("")}, "\x00\x00\x01a\x00"},
		{[]api.Kind{x, b, x}, []api.Value{null, truth(false), text("z")}, "\x01\x00\x01z"},
		{times(8, b), []api.Value{truth(true), null, null, truth(false), truth(true), null, truth(true), null}, "\xa6\x01\x00\x01\x01"},
		{times(8, i), slices.Repeat([]api.Value{null}, 8), "\xff"},
		{[]api.Kind{b, b, b, b, b, b, b, i}, append(slices.Repeat([]api.Value{null}, 7), number(5)), "\x7f\x05\x00\x00\x00\x00\x00\x00\x00"},
		{[]api.Kind{x, x, x, x}, []api.Value{text(sixty), text(sixty), text(sixty), letters(15)},
			"\x00\x3c" + sixty + "\x3c" + sixty + "\x3c" + sixty + "\x0f" + strings.Repeat("x", 15)},
	}
}

// P4.1: rows and their encodings, both ways.
func TestBytesAndRead(t *testing.T) {
	for _, c := range written() {
		if e := Fits(c.kinds, c.l); e != api.OK {
			t.Errorf("Fits(%v, %+v) = %d", c.kinds, c.l, e)
		}
		if p, e := Bytes(c.kinds, c.l); string(p) != c.p || e != api.OK {
			t.Errorf("Bytes(%v, %+v) = %x, %d; want %x", c.kinds, c.l, p, e, c.p)
		}
		if l, e := Read(c.kinds, []byte(c.p)); !slices.Equal(l, c.l) || e != api.OK {
			t.Errorf("Read(%v, %x) = %+v, %d; want %+v", c.kinds, c.p, l, e, c.l)
		}
	}
}

// P4.1: rows of each three kinds are read back.
func TestReadOfBytes(t *testing.T) {
	some := map[api.Kind][]api.Value{
		api.Int:  {null, number(0), number(-1), number(1), number(math.MinInt64), number(math.MaxInt64)},
		api.Text: {null, text(""), text("a"), text("\x01\x02"), letters(60)},
		api.Bool: {null, truth(false), truth(true)},
	}
	for _, kinds := range triples([]api.Kind{api.Int, api.Text, api.Bool}) {
		for _, u := range some[kinds[0]] {
			for _, v := range some[kinds[1]] {
				for _, w := range some[kinds[2]] {
					row := []api.Value{u, v, w}
					p, e := Bytes(kinds, row)
					l, f := Read(kinds, p)
					if e != api.OK || f != api.OK || !slices.Equal(l, row) {
						t.Errorf("of %v, %+v: %x, %d, read as %+v, %d", kinds, row, p, e, l, f)
					}
				}
			}
		}
	}
}

// triples lists all three of l, the same one again or not.
func triples[T any](l []T) [][]T {
	var all [][]T
	for _, a := range l {
		for _, b := range l {
			for _, c := range l {
				all = append(all, []T{a, b, c})
			}
		}
	}
	return all
}

// checkRefused holds Fits and Bytes to an error.
func checkRefused(t *testing.T, kinds []api.Kind, l []api.Value, want api.Errno) {
	t.Helper()
	if e := Fits(kinds, l); e != want {
		t.Errorf("Fits(%v, %+v) = %d; want %d", kinds, l, e, want)
	}
	if p, e := Bytes(kinds, l); len(p) != 0 || e != want {
		t.Errorf("Bytes(%v, %+v) = %x, %d; want %d", kinds, l, p, e, want)
	}
}

// P4.1: kinds that no columns have, whatever the values or the bytes are.
func TestWrongKinds(t *testing.T) {
	for _, kinds := range wrongKinds() {
		nulls := slices.Repeat([]api.Value{null}, len(kinds))
		checkRefused(t, kinds, nil, api.ErrArg)
		checkRefused(t, kinds, nulls, api.ErrArg)
		checkRefused(t, kinds, append(nulls, null), api.ErrArg)
		checkRefused(t, kinds, []api.Value{number(1)}, api.ErrArg)
		checkRefused(t, kinds, []api.Value{{Kind: 9}}, api.ErrArg)
		for _, p := range []string{"", "\x00", "\x01", "\xff", "\x00\x01", "\x00\x01\x00\x00\x00\x00\x00\x00\x00"} {
			if l, e := Read(kinds, []byte(p)); len(l) != 0 || e != api.ErrArg {
				t.Errorf("Read(%v, %x) = %+v, %d", kinds, p, l, e)
			}
		}
	}
}

// P4.1: another number of values is ErrArg, ahead of what is wrong about the values.
func TestWrongNumberOfValues(t *testing.T) {
	for n := 1; n <= 8; n++ {
		kinds := times(n, api.Text)
		for m := range 12 {
			if m == n {
				continue
			}
			for _, v := range []api.Value{null, text("a"), number(1), {Kind: 9}, letters(60), letters(61)} {
				checkRefused(t, kinds, slices.Repeat([]api.Value{v}, m), api.ErrArg)
			}
		}
	}
}

// P4.1: an invalid value is ErrForm, ahead of another kind and of the length.
func TestInvalidValues(t *testing.T) {
	for _, v := range samples.Invalid() {
		for _, k := range []api.Kind{api.Int, api.Text, api.Bool} {
			checkRefused(t, []api.Kind{k}, []api.Value{v}, api.ErrForm)
			checkRefused(t, []api.Kind{k, api.Int}, []api.Value{v, text("a")}, api.ErrForm)
			checkRefused(t, []api.Kind{api.Int, k}, []api.Value{text("a"), v}, api.ErrForm)
			checkRefused(t, []api.Kind{api.Text, api.Text, api.Text, api.Text, k}, []api.Value{letters(60), letters(60), letters(60), letters(60), v}, api.ErrForm)
		}
	}
}

// P4.1: a value of another kind is ErrType, ahead of the length.
func TestOtherKinds(t *testing.T) {
	values := []api.Value{number(0), number(1), text(""), text("1"), truth(false), truth(true)}
	for _, k := range []api.Kind{api.Int, api.Text, api.Bool} {
		for _, v := range values {
			if v.Kind == k {
				continue
			}
			checkRefused(t, []api.Kind{k}, []api.Value{v}, api.ErrType)
			checkRefused(t, []api.Kind{k, api.Int}, []api.Value{v, null}, api.ErrType)
			checkRefused(t, []api.Kind{api.Int, k}, []api.Value{number(1), v}, api.ErrType)
			checkRefused(t, []api.Kind{api.Text, api.Text, api.Text, api.Text, k}, []api.Value{letters(60), letters(60), letters(60), letters(60), v}, api.ErrType)
		}
	}
}

// P4.1: an encoding may have 200 bytes, and no more.
func TestLength(t *testing.T) {
	i, x, b := api.Int, api.Text, api.Bool
	for _, c := range []struct {
		kinds []api.Kind
		l     []api.Value
		size  int
	}{
		{[]api.Kind{x, x, x, x}, []api.Value{letters(60), letters(60), letters(60), letters(15)}, 200},
		{[]api.Kind{x, x, x, x}, []api.Value{letters(60), letters(60), letters(60), letters(16)}, 201},
		{[]api.Kind{x, x, x, i, i}, []api.Value{letters(60), letters(60), letters(60), number(1), number(-1)}, 200},
		{[]api.Kind{x, x, x, i, i, b}, []api.Value{letters(60), letters(60), letters(60), number(1), number(-1), truth(false)}, 201},
		{[]api.Kind{x, x, x, i, i, b}, []api.Value{letters(60), letters(60), letters(60), number(1), number(-1), null}, 200},
		{[]api.Kind{b, i, x, x, x, x}, []api.Value{truth(true), number(0), letters(60), letters(60), letters(60), letters(6)}, 200},
		{[]api.Kind{b, i, x, x, x, x}, []api.Value{truth(true), number(0), letters(60), letters(60), letters(60), letters(7)}, 201},
		{times(8, x), slices.Repeat([]api.Value{letters(23)}, 8), 193},
		{times(8, x), slices.Repeat([]api.Value{letters(24)}, 8), 201},
		{times(8, x), slices.Repeat([]api.Value{letters(60)}, 8), 489},
		{times(8, x), append(slices.Repeat([]api.Value{letters(60)}, 3), slices.Repeat([]api.Value{null}, 5)...), 184},
		{times(8, i), slices.Repeat([]api.Value{number(math.MinInt64)}, 8), 65},
	} {
		if c.size > 200 {
			checkRefused(t, c.kinds, c.l, api.ErrLong)
			continue
		}
		p, e := Bytes(c.kinds, c.l)
		if len(p) != c.size || e != api.OK || Fits(c.kinds, c.l) != api.OK {
			t.Errorf("Bytes(%v, %+v) has %d bytes, %d; want %d", c.kinds, c.l, len(p), e, c.size)
		}
		if l, e := Read(c.kinds, p); !slices.Equal(l, c.l) || e != api.OK {
			t.Errorf("Read(%v, %x) = %+v, %d", c.kinds, p, l, e)
		}
	}
}

// P4.1: bytes that are no row's of these kinds.
func TestReadOfWrongBytes(t *testing.T) {
	i, x, b := api.Int, api.Text, api.Bool
	sixty := strings.Repeat("x", 60)
	for _, c := range []struct {
		kinds []api.Kind
		wrong []string
	}{
		{[]api.Kind{i}, []string{"", "\x00", "\x00\x01\x02\x03\x04\x05\x06\x07", "\x00\x01\x02\x03\x04\x05\x06\x07\x08\x09", "\x01\x00", "\x02", "\x03", "\x80", "\x02\x01\x02\x03\x04\x05\x06\x07\x08", "\x81"}},
		{[]api.Kind{b}, []string{"", "\x00", "\x00\x02", "\x00\x80", "\x00\xff", "\x00\x00\x00", "\x00\x01\x01", "\x01\x00", "\x02\x01", "\xfe\x01"}},
		{[]api.Kind{x}, []string{"", "\x00", "\x00\x01", "\x00\x02a", "\x00\x00\x00", "\x00\x01ab", "\x01\x00", "\x01\x01a", "\x02\x01a",
			"\x00\x01\x00", "\x00\x03a\x00b", "\x00\x01\xff", "\x00\x01\xc3", "\x00\x03\xed\xa0\x80", "\x00\x02\xc0\x80",
			"\x00\x3dx" + sixty, "\x00\x3d" + sixty, "\x00\xff" + strings.Repeat("x", 255), "\x00\xc6" + strings.Repeat("x", 198), "\x00\x3c" + sixty[1:]}},
		{[]api.Kind{x, x}, []string{"\x00\x01\xc3\x01\xa9", "\x00\x00", "\x02", "\x01", "\x04", "\x04\x00\x00", "\x00\x01a", "\x03\x00", "\x02\x00\x00"}},
		{times(7, b), []string{"\x80", "\xff", "\x80\x00\x00\x00\x00\x00\x00\x00", "\x00\x00\x00\x00\x00\x00\x00", "\x00\x00\x00\x00\x00\x00\x00\x00\x00"}},
		{times(8, b), []string{"\xff\x00", "\x00", "\x7f", "\x80\x00\x00\x00\x00\x00\x00\x00\x00"}},
		{[]api.Kind{x, x, x, x}, []string{"\x00\x3c" + sixty + "\x3c" + sixty + "\x3c" + sixty + "\x10" + strings.Repeat("x", 16)}},
		{[]api.Kind{x, x, x, i, i, b}, []string{"\x00\x3c" + sixty + "\x3c" + sixty + "\x3c" + sixty + strings.Repeat("\x00", 17)}},
		{times(8, x), []string{"\x00" + strings.Repeat("\x3c"+sixty, 8)}},
	} {
		for _, p := range c.wrong {
			if l, e := Read(c.kinds, []byte(p)); len(l) != 0 || e != api.ErrForm {
				t.Errorf("Read(%v, %x) = %+v, %d", c.kinds, p, l, e)
			}
		}
	}
}

// P4.1: bytes near to an encoding, cut off, with something behind, or changed, are one as well or an error.
func TestReadNearEncodings(t *testing.T) {
	for _, c := range written() {
		for n := range c.p {
			checkRead(t, c.kinds, c.p[:n])
			checkRead(t, c.kinds, c.p[n:])
			if l, e := Read(c.kinds, []byte(c.p[:n])); len(l) != 0 || e != api.ErrForm {
				t.Errorf("Read(%v, %x), cut off, = %+v, %d", c.kinds, c.p[:n], l, e)
			}
		}
		for b := range 256 {
			behind := c.p + string([]byte{byte(b)})
			if l, e := Read(c.kinds, []byte(behind)); len(l) != 0 || e != api.ErrForm {
				t.Errorf("Read(%v, %x), with a byte behind, = %+v, %d", c.kinds, behind, l, e)
			}
			for i := range c.p {
				p := []byte(c.p)
				p[i] = byte(b)
				checkRead(t, c.kinds, string(p))
			}
		}
	}
}

// checkRead holds Read against Bytes: what is read from p has p as its encoding.
func checkRead(t *testing.T, kinds []api.Kind, p string) {
	t.Helper()
	l, e := Read(kinds, []byte(p))
	if e == api.ErrForm && len(l) == 0 {
		return
	}
	if q, f := Bytes(kinds, l); e != api.OK || f != api.OK || p != string(q) {
		t.Errorf("Read(%v, %x) = %+v, %d, which is %x", kinds, p, l, e, q)
	}
}

// P4.1: of all rows of few bytes, those read are those that have an encoding.
func TestReadOfFewBytes(t *testing.T) {
	var kinds [][]api.Kind
	for _, k := range triples([]api.Kind{api.Int, api.Text, api.Bool}) {
		kinds = append(kinds, k, k[:2], k[:1])
	}
	all := []string{""}
	from := 0
	for range 5 {
		to := len(all)
		for _, s := range all[from:to] {
			for _, b := range []string{"\x00", "\x01", "\x02", "\x07", "\x80"} {
				all = append(all, s+b)
			}
		}
		from = to
	}
	for _, k := range kinds {
		for _, p := range all {
			checkRead(t, k, p)
		}
	}
}

// P4.1: arguments are neither changed nor kept, nor is the memory behind them.
func TestArgumentsStay(t *testing.T) {
	kinds := []api.Kind{api.Text, api.Int, api.Bool, api.Bool}
	row := []api.Value{text("abc"), number(7), null, truth(true)}
	const want = "\x04\x03abc\x07\x00\x00\x00\x00\x00\x00\x00"
	p, e := Bytes(kinds[:3], row[:3])
	if string(p) != want || e != api.OK || Fits(kinds[:3], row[:3]) != api.OK {
		t.Fatalf("%x, %d", p, e)
	}
	q := []byte(want + "\x09")
	l, e := Read(kinds[:3], q[:len(want)])
	if !slices.Equal(l, row[:3]) || e != api.OK {
		t.Fatalf("%+v, %d", l, e)
	}
	if !slices.Equal(kinds, []api.Kind{api.Text, api.Int, api.Bool, api.Bool}) || !slices.Equal(row, []api.Value{text("abc"), number(7), null, truth(true)}) || string(q) != want+"\x09" {
		t.Error("an argument has changed")
	}
	clear(kinds)
	clear(row)
	clear(q)
	if string(p) != want || !slices.Equal(l, []api.Value{text("abc"), number(7), null}) {
		t.Errorf("an argument was kept: %x, %+v", p, l)
	}
}

// P2: no result shares memory with another, nor with an argument; and calls answer the same again.
func TestResultsAreNew(t *testing.T) {
	for _, c := range written() {
		p, _ := Bytes(c.kinds, c.l)
		q, _ := Bytes(c.kinds, c.l)
		samples.Fill(p)
		again, _ := Bytes(c.kinds, c.l)
		if string(q) != c.p || string(again) != c.p {
			t.Errorf("Bytes(%v, %+v) shares memory", c.kinds, c.l)
		}
		arg := []byte(c.p)
		l, _ := Read(c.kinds, arg)
		m, _ := Read(c.kinds, arg)
		for i := range l[:cap(l)] {
			l[:cap(l)][i] = number(99)
		}
		n, _ := Read(c.kinds, arg)
		if !slices.Equal(m, c.l) || !slices.Equal(n, c.l) || string(arg) != c.p {
			t.Errorf("Read(%v, %x) shares memory", c.kinds, c.p)
		}
	}
}

// P1: all calls end, whatever they are given; P2: and answer the same again.
func TestAllCallsEnd(t *testing.T) {
	rows := [][]api.Value{nil, {null}, {number(1)}, {text("a")}, {truth(true)}, {null, null}, {text("a"), text("a")}, slices.Repeat([]api.Value{null}, 9), slices.Repeat([]api.Value{letters(60)}, 8)}
	for _, v := range samples.Invalid() {
		rows = append(rows, []api.Value{v}, []api.Value{v, v})
	}
	kinds := append(wrongKinds(), []api.Kind{api.Int}, []api.Kind{api.Text}, []api.Kind{api.Bool}, []api.Kind{api.Text, api.Int}, times(8, api.Text), times(8, api.Bool))
	for _, k := range kinds {
		for _, l := range rows {
			p, e := Bytes(k, l)
			q, f := Bytes(k, l)
			if !bytes.Equal(p, q) || e != f || Fits(k, l) != e || e != api.OK && len(p) != 0 {
				t.Errorf("of %v, %+v: %x, %d, and then %x, %d", k, l, p, e, q, f)
			}
		}
		for _, p := range [][]byte{nil, {}, {0}, {1}, {255}, make([]byte, 200), make([]byte, 201), make([]byte, 1<<20), bytes.Repeat([]byte{255}, 300)} {
			l, e := Read(k, p)
			m, f := Read(k, p)
			if !slices.Equal(l, m) || e != f || e != api.OK && len(l) != 0 {
				t.Errorf("of %v, %.80x: %+v, %d, and then %+v, %d", k, p, l, e, m, f)
			}
		}
	}
}
