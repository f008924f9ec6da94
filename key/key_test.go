package key

import (
	"bytes"
	"math"
	"slices"
	"strings"
	"testing"

	"lapidary/api"
	"lapidary/cell"
	"lapidary/samples"
)

var (
	null                = api.Value{}
	number, text, truth = samples.Number, samples.Text, samples.Truth
)

// encoded is a row's encoding, which there must be.
func encoded(t *testing.T, l ...api.Value) []byte {
	t.Helper()
	p, e := Bytes(l...)
	if e != api.OK {
		t.Fatalf("Bytes(%+v): %d", l, e)
	}
	return p
}

// written are encodings beside their rows, written out.
func written() []struct {
	l []api.Value
	p string
} {
	long := strings.Repeat("x", 60)
	return []struct {
		l []api.Value
		p string
	}{
		{nil, ""},
		{[]api.Value{null}, "\x01"},
		{[]api.Value{truth(false)}, "\x02\x00"},
		{[]api.Value{truth(true)}, "\x02\x01"},
		{[]api.Value{number(0)}, "\x03\x80\x00\x00\x00\x00\x00\x00\x00"},
		{[]api.Value{number(1)}, "\x03\x80\x00\x00\x00\x00\x00\x00\x01"},
		{[]api.Value{number(-1)}, "\x03\x7f\xff\xff\xff\xff\xff\xff\xff"},
		{[]api.Value{number(0x0102030405060708)}, "\x03\x81\x02\x03\x04\x05\x06\x07\x08"},
		{[]api.Value{number(math.MaxInt64)}, "\x03\xff\xff\xff\xff\xff\xff\xff\xff"},
		{[]api.Value{number(math.MinInt64)}, "\x03\x00\x00\x00\x00\x00\x00\x00\x00"},
		{[]api.Value{text("")}, "\x04\x00"},
		{[]api.Value{text("a")}, "\x04a\x00"},
		{[]api.Value{text("\u00e9\x01")}, "\x04\xc3\xa9\x01\x00"},
		{[]api.Value{text(long)}, "\x04" + long + "\x00"},
		{[]api.Value{text("a"), null}, "\x04a\x00\x01"},
		{[]api.Value{text(""), text(""), text("b")}, "\x04\x00\x04\x00\x04b\x00"},
		{[]api.Value{null, null, truth(true), truth(false)}, "\x01\x01\x02\x01\x02\x00"},
		{[]api.Value{truth(true), number(2), text("z"), number(-2)}, "\x02\x01\x03\x80\x00\x00\x00\x00\x00\x00\x02\x04z\x00\x03\x7f\xff\xff\xff\xff\xff\xff\xfe"},
	}
}

// P3.1: rows and their encodings, both ways.
func TestBytesAndRead(t *testing.T) {
	for _, c := range written() {
		if p, e := Bytes(c.l...); string(p) != c.p || e != api.OK {
			t.Errorf("Bytes(%+v) = %x, %d; want %x", c.l, p, e, c.p)
		}
		if l, e := Read([]byte(c.p)); !slices.Equal(l, c.l) || e != api.OK {
			t.Errorf("Read(%x) = %+v, %d; want %+v", c.p, l, e, c.l)
		}
	}
}

// P3.1: each two values make a row that is read back.
func TestReadOfBytes(t *testing.T) {
	for _, v := range samples.Ascending() {
		for _, w := range samples.Ascending() {
			p := encoded(t, v, w)
			if l, e := Read(p); !slices.Equal(l, []api.Value{v, w}) || e != api.OK {
				t.Errorf("Read(%x) = %+v, %d; want %+v, %+v", p, l, e, v, w)
			}
		}
	}
}

// P3.1: rows may have any number of values.
func TestLongRow(t *testing.T) {
	var long []api.Value
	for range 300 {
		long = append(long, samples.Ascending()...)
	}
	if l, e := Read(encoded(t, long...)); !slices.Equal(l, long) || e != api.OK {
		t.Errorf("%d of %d values, %d", len(l), len(long), e)
	}
}

// P3.1: a row with an invalid value, wherever it stands, has no encoding.
func TestBytesOfInvalidValues(t *testing.T) {
	for _, v := range samples.Invalid() {
		for _, l := range [][]api.Value{{v}, {v, null}, {number(1), v}, {text("a"), v, truth(true)}} {
			if p, e := Bytes(l...); len(p) != 0 || e != api.ErrForm {
				t.Errorf("Bytes(%+v) = %x, %d", l, p, e)
			}
		}
	}
}

// P3.1: bytes that are no row's.
func TestReadOfWrongBytes(t *testing.T) {
	for _, p := range []string{
		"\x00", "\x05", "\x06\x00", "\xff", "a",
		"\x02", "\x02\x02", "\x02\x80", "\x02\xff", "\x02\x02\x01", "\x02\x00\x00", "\x02\x01\x01\x02",
		"\x03", "\x03\x80", "\x03\x80\x00\x00\x00\x00\x00\x00", "\x03\x80\x00\x00\x00\x00\x00\x00\x00\x00",
		"\x04", "\x04a", "\x04\x00\x00", "\x04a\x00\x00", "\x04a\x00b\x00", "\x04\xff\x00", "\x04\xc3\x00\xa9", "\x04\xed\xa0\x80\x00", "\x04\xc0\x80\x00",
		"\x04" + strings.Repeat("a", 61) + "\x00", "\x04" + strings.Repeat("\u00e9", 31) + "\x00", "\x04" + strings.Repeat("a", 1<<20),
		"\x01\x00", "\x00\x01", "\x01\x02", "\x01\x01\x05", "\x01\x04a",
	} {
		if l, e := Read([]byte(p)); len(l) != 0 || e != api.ErrForm {
			t.Errorf("Read(%.80x) = %+v, %d", p, l, e)
		}
	}
}

// P3.1: bytes near to an encoding, cut off, with something behind, or changed, are one as well or an error.
func TestReadNearEncodings(t *testing.T) {
	for _, c := range written() {
		p := []byte(c.p)
		for n := range p {
			checkRead(t, p[:n])
			checkRead(t, p[n:])
		}
		for b := range 256 {
			checkRead(t, append([]byte(c.p), byte(b)))
			for i := range p {
				q := []byte(c.p)
				q[i] = byte(b)
				checkRead(t, q)
			}
		}
	}
}

// checkRead holds Read against Bytes: what is read from p has p as its encoding.
func checkRead(t *testing.T, p []byte) {
	t.Helper()
	l, e := Read(p)
	if e == api.ErrForm && len(l) == 0 {
		return
	}
	if q, f := Bytes(l...); e != api.OK || f != api.OK || !bytes.Equal(p, q) {
		t.Errorf("Read(%x) = %+v, %d, which is %x", p, l, e, q)
	}
}

// P3.1: the order of bytes.
func TestLess(t *testing.T) {
	up := []string{"", "\x00", "\x00\x00", "\x00\xff", "\x01", "\x01\x00", "\x7f", "\x7f\xff\xff", "\x80", "\x80\x00", "\xfe\xff", "\xff", "\xff\x00", "\xff\xff"}
	for i, a := range up {
		for k, b := range up {
			if Less([]byte(a), []byte(b)) != (i < k) {
				t.Errorf("Less(%x, %x) = %v", a, b, i >= k)
			}
		}
	}
	if Less(nil, nil) || Less(nil, []byte{}) || Less([]byte{}, nil) || !Less(nil, []byte{0}) || Less([]byte{0}, nil) {
		t.Error("Less of nothing")
	}
}

// P3.2: the order of encodings is that of the values.
func TestEncodingsOrderAsValues(t *testing.T) {
	for i, v := range samples.Ascending() {
		for k, w := range samples.Ascending() {
			p, q := encoded(t, v), encoded(t, w)
			if Less(p, q) != (i < k) || Less(p, q) != cell.Less(v, w) {
				t.Errorf("%+v is %x, %+v is %x", v, p, w, q)
			}
		}
	}
}

// P3.2: the first place where two rows of one length differ decides.
func TestEncodingsOrderAsRows(t *testing.T) {
	all := []api.Value{null, truth(false), truth(true), number(math.MinInt64), number(-1), number(0), number(math.MaxInt64), text(""), text("\x01"), text("a"), text("a\x01"), text("aa")}
	var rows [][]api.Value
	for _, u := range all {
		for _, v := range all {
			for _, w := range all {
				rows = append(rows, []api.Value{u, v, w})
			}
		}
	}
	var keys [][]byte
	for _, r := range rows {
		keys = append(keys, encoded(t, r...))
	}
	for i := range rows {
		for k := range rows {
			if Less(keys[i], keys[k]) != (i < k) {
				t.Fatalf("%+v is %x, %+v is %x", rows[i], keys[i], rows[k], keys[k])
			}
		}
	}
}

// P3.3: Behind, written out.
func TestBehind(t *testing.T) {
	for _, c := range []struct{ p, want string }{
		{"", ""},
		{"\xff", ""},
		{"\xff\xff\xff", ""},
		{"\x00", "\x01"},
		{"\x00\x00", "\x00\x01"},
		{"\x01", "\x02"},
		{"\x01\xff", "\x02"},
		{"\x01\xff\xff\xff", "\x02"},
		{"\x00\xff", "\x01"},
		{"\xfe", "\xff"},
		{"\xfe\xff", "\xff"},
		{"\xff\x00", "\xff\x01"},
		{"\xff\xfe", "\xff\xff"},
		{"\xff\x01\xff", "\xff\x02"},
		{"\x01\xff\x02\xff", "\x01\xff\x03"},
		{"\x04a\x00", "\x04a\x01"},
		{"\x03\xff\xff\xff\xff\xff\xff\xff\xff", "\x04"},
	} {
		if q := Behind([]byte(c.p)); string(q) != c.want {
			t.Errorf("Behind(%x) = %x; want %x", c.p, q, c.want)
		}
	}
	if q := Behind(nil); len(q) != 0 {
		t.Errorf("Behind of nil = %x", q)
	}
}

// short lists all bytes of at most n places, made of some that matter.
func short(n int) []string {
	all := []string{""}
	from := 0
	for range n {
		to := len(all)
		for _, s := range all[from:to] {
			for _, b := range []string{"\x00", "\x01", "\x7f", "\x80", "\xfe", "\xff"} {
				all = append(all, s+b)
			}
		}
		from = to
	}
	return all
}

// P3.3: what is less than Behind(p) begins with p, or is less than p.
func TestBehindParts(t *testing.T) {
	all := short(3)
	for _, p := range all {
		q := Behind([]byte(p))
		for _, s := range all {
			ahead := s < p || strings.HasPrefix(s, p)
			if got := len(q) == 0 || Less([]byte(s), q); got != ahead {
				t.Fatalf("Behind(%x) = %x, but of %x: %v", p, q, s, ahead)
			}
		}
	}
}

// P3.1, P3.3: arguments are neither changed nor kept, nor is the memory behind them.
func TestArgumentsStay(t *testing.T) {
	room := []api.Value{text("a"), number(1), text("behind")}
	p := encoded(t, room[:2]...)
	if room[0] != text("a") || room[1] != number(1) || room[2] != text("behind") {
		t.Error("Bytes changed its argument")
	}
	room[0], room[1] = null, null
	if string(p) != "\x04a\x00\x03\x80\x00\x00\x00\x00\x00\x00\x01" {
		t.Errorf("Bytes kept its argument: %x", p)
	}

	q := []byte("\x04abc\x00\x01\x02\x01")
	l, e := Read(q[:6])
	if string(q) != "\x04abc\x00\x01\x02\x01" || e != api.OK {
		t.Error("Read changed its argument")
	}
	samples.Fill(q)
	if !slices.Equal(l, []api.Value{text("abc"), null}) {
		t.Errorf("Read kept its argument: %+v", l)
	}

	for _, s := range []string{"\x01\x02\x03", "\x01\x02\xff", "\x01\xff\xff", "\xff\xff\xff"} {
		p := []byte(s + "\x09")
		q := Behind(p[:3])
		if string(p) != s+"\x09" {
			t.Errorf("Behind(%x) changed its argument", s)
		}
		want := string(q)
		samples.Fill(p)
		if string(q) != want {
			t.Errorf("Behind(%x) kept its argument", s)
		}
	}
}

// P2: no result shares memory with another, nor with an argument; and calls answer the same again.
func TestResultsAreNew(t *testing.T) {
	row := []api.Value{truth(true), number(-3), text("abc"), null}
	const want = "\x02\x01\x03\x7f\xff\xff\xff\xff\xff\xff\xfd\x04abc\x00\x01"
	p, q := encoded(t, row...), encoded(t, row...)
	samples.Fill(p)
	if string(q) != want || string(encoded(t, row...)) != want {
		t.Error("Bytes shares memory")
	}

	arg := []byte(want)
	l, _ := Read(arg)
	m, _ := Read(arg)
	clear(l[:cap(l)])
	if n, _ := Read(arg); !slices.Equal(m, row) || !slices.Equal(n, row) || string(arg) != want {
		t.Error("Read shares memory")
	}

	for _, s := range []string{"\x01\x02", "\x01\xff"} {
		arg := []byte(s)
		p, q := Behind(arg), Behind(arg)
		same := string(q)
		samples.Fill(p)
		if string(q) != same || string(Behind(arg)) != same || string(arg) != s {
			t.Errorf("Behind(%x) shares memory", s)
		}
	}
}

// P1: all calls end, whatever they are given.
func TestAllCallsEnd(t *testing.T) {
	if p, e := Bytes(); len(p) != 0 || e != api.OK {
		t.Errorf("Bytes of none = %x, %d", p, e)
	}
	if l, e := Read(nil); len(l) != 0 || e != api.OK {
		t.Errorf("Read of nil = %+v, %d", l, e)
	}
	all := append(samples.Ascending(), samples.Invalid()...)
	for _, v := range all {
		for _, w := range all {
			p, e := Bytes(v, w)
			q, f := Bytes(v, w)
			if e != f || !bytes.Equal(p, q) {
				t.Errorf("another answer for %+v, %+v", v, w)
			}
			Behind(p)
		}
	}
	for _, s := range short(5) {
		checkRead(t, []byte(s))
	}
}
