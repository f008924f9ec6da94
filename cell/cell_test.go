package cell

import (
	"math"
	"testing"

	"lapidary/api"
	"lapidary/samples"
)

var (
	null                  = api.Value{}
	number, text, truthOf = samples.Number, samples.Text, samples.Truth
)

// P2.1: what is valid.
func TestRight(t *testing.T) {
	for _, v := range samples.Ascending() {
		if !Right(v) {
			t.Errorf("Right(%+v) = false", v)
		}
	}
	for _, v := range samples.Invalid() {
		if Right(v) {
			t.Errorf("Right(%+v) = true", v)
		}
	}
}

// P2.1: the order of all values.
func TestOrder(t *testing.T) {
	for i, v := range samples.Ascending() {
		for k, w := range samples.Ascending() {
			if Less(v, w) != (i < k) {
				t.Errorf("Less(%+v, %+v) = %v", v, w, i >= k)
			}
			if Same(v, w) != (i == k) {
				t.Errorf("Same(%+v, %+v) = %v", v, w, i != k)
			}
		}
	}
}

// P2.1: Compare of values of one kind, of Null, and of two kinds.
func TestCompare(t *testing.T) {
	for i, v := range samples.Ascending() {
		for k, w := range samples.Ascending() {
			want, known, code := 0, false, api.OK
			switch {
			case v.Kind == api.Null || w.Kind == api.Null:
			case v.Kind != w.Kind:
				code = api.ErrType
			case i < k:
				want, known = -1, true
			case i > k:
				want, known = 1, true
			default:
				known = true
			}
			if n, ok, e := Compare(v, w); n != want || ok != known || e != code {
				t.Errorf("Compare(%+v, %+v) = %d, %v, %d; want %d, %v, %d", v, w, n, ok, e, want, known, code)
			}
		}
	}
}

// P2.1: the examples of Compare, one by one.
func TestCompareExamples(t *testing.T) {
	for _, c := range []struct {
		a, b  api.Value
		want  int
		known bool
		code  api.Errno
	}{
		{number(1), text("x"), 0, false, api.ErrType},
		{number(1), truthOf(true), 0, false, api.ErrType},
		{truthOf(false), text(""), 0, false, api.ErrType},
		{null, null, 0, false, api.OK},
		{null, text("x"), 0, false, api.OK},
		{number(0), null, 0, false, api.OK},
		{truthOf(false), truthOf(true), -1, true, api.OK},
		{truthOf(true), truthOf(true), 0, true, api.OK},
		{number(-1), number(1), -1, true, api.OK},
		{number(math.MaxInt64), number(math.MinInt64), 1, true, api.OK},
		{number(math.MinInt64), number(math.MaxInt64), -1, true, api.OK},
		{text("a"), text("B"), 1, true, api.OK},
		{text("a"), text("a"), 0, true, api.OK},
		{text("a"), text("aa"), -1, true, api.OK},
	} {
		if n, ok, e := Compare(c.a, c.b); n != c.want || ok != c.known || e != c.code {
			t.Errorf("Compare(%+v, %+v) = %d, %v, %d; want %d, %v, %d", c.a, c.b, n, ok, e, c.want, c.known, c.code)
		}
	}
}

// P2.2: And and Or of each two truths.
func TestAndOr(t *testing.T) {
	no, yes := truthOf(false), truthOf(true)
	for _, c := range []struct{ a, b, and, or api.Value }{
		{null, null, null, null},
		{null, no, no, null},
		{null, yes, null, yes},
		{no, null, no, null},
		{no, no, no, no},
		{no, yes, no, yes},
		{yes, null, null, yes},
		{yes, no, no, yes},
		{yes, yes, yes, yes},
	} {
		if v, e := And(c.a, c.b); v != c.and || e != api.OK {
			t.Errorf("And(%+v, %+v) = %+v, %d", c.a, c.b, v, e)
		}
		if v, e := Or(c.a, c.b); v != c.or || e != api.OK {
			t.Errorf("Or(%+v, %+v) = %+v, %d", c.a, c.b, v, e)
		}
	}
}

// P2.2: Not of each truth.
func TestNot(t *testing.T) {
	for _, c := range []struct{ a, want api.Value }{
		{null, null},
		{truthOf(false), truthOf(true)},
		{truthOf(true), truthOf(false)},
	} {
		if v, e := Not(c.a); v != c.want || e != api.OK {
			t.Errorf("Not(%+v) = %+v, %d", c.a, v, e)
		}
	}
}

// P2.2: what is no truth is an error, also beside a truth that would decide alone.
func TestLogicOfWrongKinds(t *testing.T) {
	for _, v := range samples.Ascending() {
		if v.Kind == api.Null || v.Kind == api.Bool {
			continue
		}
		if r, e := Not(v); r != null || e != api.ErrType {
			t.Errorf("Not(%+v) = %+v, %d", v, r, e)
		}
		for _, w := range samples.Ascending() {
			for _, f := range []func(a, b api.Value) (api.Value, api.Errno){And, Or} {
				if r, e := f(v, w); r != null || e != api.ErrType {
					t.Errorf("of %+v, %+v: %+v, %d", v, w, r, e)
				}
				if r, e := f(w, v); r != null || e != api.ErrType {
					t.Errorf("of %+v, %+v: %+v, %d", w, v, r, e)
				}
			}
		}
	}
}

// P2.3: literals.
func TestLiteral(t *testing.T) {
	for _, c := range []struct {
		v    api.Value
		want string
	}{
		{null, "NULL"},
		{truthOf(true), "TRUE"},
		{truthOf(false), "FALSE"},
		{number(0), "0"},
		{number(7), "7"},
		{number(-15), "-15"},
		{number(math.MaxInt64), "9223372036854775807"},
		{number(math.MinInt64), "-9223372036854775808"},
		{text(""), "''"},
		{text("a"), "'a'"},
		{text("it's"), "'it''s'"},
		{text("'"), "''''"},
		{text("''"), "''''''"},
		{text("'a'b'"), "'''a''b'''"},
		{text("NULL"), "'NULL'"},
		{text("a\\n\"b\n\u00e9"), "'a\\n\"b\n\u00e9'"},
	} {
		if s := Literal(c.v); s != c.want {
			t.Errorf("Literal(%+v) = %q; want %q", c.v, s, c.want)
		}
	}
}

// P1: whatever the values are, each call ends and does not panic. P2: and it answers the same again.
func TestAllCallsOfAllValuesEnd(t *testing.T) {
	all := append(samples.Ascending(), samples.Invalid()...)
	for _, v := range all {
		if Right(v) != Right(v) || Literal(v) != Literal(v) {
			t.Errorf("another answer for %+v", v)
		}
		r, e := Not(v)
		if s, f := Not(v); r != s || e != f {
			t.Errorf("another Not for %+v", v)
		}
		for _, w := range all {
			if answersOf(v, w) != answersOf(v, w) {
				t.Errorf("another answer for %+v, %+v", v, w)
			}
		}
	}
}

// answers are those of all calls on two values.
type answers struct {
	less, same, known bool
	order             int
	and, or           api.Value
	codes             [3]api.Errno
}

func answersOf(a, b api.Value) answers {
	var r answers
	r.less, r.same = Less(a, b), Same(a, b)
	r.order, r.known, r.codes[0] = Compare(a, b)
	r.and, r.codes[1] = And(a, b)
	r.or, r.codes[2] = Or(a, b)
	return r
}
