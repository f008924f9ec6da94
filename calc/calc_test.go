package calc

import (
	"math"
	"math/big"
	"strings"
	"testing"

	"lapidary/api"
)

const (
	most  = math.MaxInt64
	least = math.MinInt64
)

// edges are numbers near which a bound, a sign or a root of a bound lies.
func edges() []int64 {
	return []int64{
		least, least + 1, least + 2, least / 2, least/2 - 1, least/3 - 1, -3037000500, -3037000499, -1 << 32, -10, -7, -3, -2, -1,
		0, 1, 2, 3, 7, 10, 1 << 32, 3037000499, 3037000500, most/3 + 1, most / 2, most/2 + 1, most - 1, most,
	}
}

// bounded is what a result beyond all bounds should be answered as.
func bounded(n *big.Int) (int64, api.Errno) {
	if !n.IsInt64() {
		return 0, api.ErrOver
	}
	return n.Int64(), api.OK
}

// P1.1: each of two numbers' results agrees with that of numbers without bounds.
func TestReckoningAgreesWithNumbersWithoutBounds(t *testing.T) {
	for _, c := range []struct {
		name    string
		f       func(a, b int64) (int64, api.Errno)
		exact   func(z, a, b *big.Int) *big.Int
		divides bool
	}{
		{"Add", Add, (*big.Int).Add, false},
		{"Sub", Sub, (*big.Int).Sub, false},
		{"Mul", Mul, (*big.Int).Mul, false},
		{"Div", Div, (*big.Int).Quo, true},
		{"Mod", Mod, (*big.Int).Rem, true},
	} {
		for _, a := range edges() {
			for _, b := range edges() {
				want, code := int64(0), api.ErrZero
				if !c.divides || b != 0 {
					want, code = bounded(c.exact(new(big.Int), big.NewInt(a), big.NewInt(b)))
				}
				if n, e := c.f(a, b); n != want || e != code {
					t.Errorf("%s(%d, %d) = %d, %d; want %d, %d", c.name, a, b, n, e, want, code)
				}
			}
		}
	}
}

// P1.1: the edges that the document names.
func TestReckoningAtTheBounds(t *testing.T) {
	for _, c := range []struct {
		name string
		f    func(a, b int64) (int64, api.Errno)
		a, b int64
		want int64
		code api.Errno
	}{
		{"Add", Add, 2, 3, 5, api.OK},
		{"Add", Add, most, 1, 0, api.ErrOver},
		{"Add", Add, least, -1, 0, api.ErrOver},
		{"Add", Add, most, least, -1, api.OK},
		{"Add", Add, most - 1, 1, most, api.OK},
		{"Sub", Sub, 2, 3, -1, api.OK},
		{"Sub", Sub, least, 1, 0, api.ErrOver},
		{"Sub", Sub, 0, least, 0, api.ErrOver},
		{"Sub", Sub, -1, least, most, api.OK},
		{"Sub", Sub, -1, most, least, api.OK},
		{"Mul", Mul, -6, 7, -42, api.OK},
		{"Mul", Mul, least, -1, 0, api.ErrOver},
		{"Mul", Mul, -1, least, 0, api.ErrOver},
		{"Mul", Mul, 1 << 62, -2, least, api.OK},
		{"Mul", Mul, 1 << 62, 2, 0, api.ErrOver},
		{"Mul", Mul, 1 << 32, 1 << 32, 0, api.ErrOver},
		{"Div", Div, -7, 2, -3, api.OK},
		{"Div", Div, 7, -2, -3, api.OK},
		{"Div", Div, least, -1, 0, api.ErrOver},
		{"Div", Div, least, 1, least, api.OK},
		{"Div", Div, 0, 0, 0, api.ErrZero},
		{"Div", Div, least, 0, 0, api.ErrZero},
		{"Mod", Mod, -7, 2, -1, api.OK},
		{"Mod", Mod, 7, -2, 1, api.OK},
		{"Mod", Mod, least, -1, 0, api.OK},
		{"Mod", Mod, 5, 0, 0, api.ErrZero},
	} {
		if n, e := c.f(c.a, c.b); n != c.want || e != c.code {
			t.Errorf("%s(%d, %d) = %d, %d; want %d, %d", c.name, c.a, c.b, n, e, c.want, c.code)
		}
	}
}

// P1.1: Neg.
func TestNeg(t *testing.T) {
	for _, a := range edges() {
		want, code := bounded(new(big.Int).Neg(big.NewInt(a)))
		if n, e := Neg(a); n != want || e != code {
			t.Errorf("Neg(%d) = %d, %d; want %d, %d", a, n, e, want, code)
		}
	}
	if n, e := Neg(least); n != 0 || e != api.ErrOver {
		t.Errorf("Neg of the least = %d, %d", n, e)
	}
}

// P1.1: Read takes one or more digits, and nothing else.
func TestRead(t *testing.T) {
	noughts := strings.Repeat("0", 1000)
	nines := strings.Repeat("9", 1000)
	for _, c := range []struct {
		s    string
		want int64
		code api.Errno
	}{
		{"0", 0, api.OK},
		{"7", 7, api.OK},
		{"007", 7, api.OK},
		{"1234567890", 1234567890, api.OK},
		{noughts, 0, api.OK},
		{noughts + "12", 12, api.OK},
		{"9223372036854775799", 9223372036854775799, api.OK},
		{"9223372036854775807", most, api.OK},
		{noughts + "9223372036854775807", most, api.OK},
		{"9223372036854775808", 0, api.ErrOver},
		{"9223372036854775810", 0, api.ErrOver},
		{noughts + "9223372036854775808", 0, api.ErrOver},
		{"18446744073709551616", 0, api.ErrOver},
		{"18446744073709551617", 0, api.ErrOver},
		{"92233720368547758070", 0, api.ErrOver},
		{"92233720368547758080", 0, api.ErrOver},
		{nines, 0, api.ErrOver},
		{"", 0, api.ErrForm},
		{"-1", 0, api.ErrForm},
		{"+1", 0, api.ErrForm},
		{"-", 0, api.ErrForm},
		{" 1", 0, api.ErrForm},
		{"1 ", 0, api.ErrForm},
		{"1_000", 0, api.ErrForm},
		{"0x10", 0, api.ErrForm},
		{"1.0", 0, api.ErrForm},
		{"1e3", 0, api.ErrForm},
		{"a", 0, api.ErrForm},
		{"1/", 0, api.ErrForm},
		{"1:", 0, api.ErrForm},
		{"1\x00", 0, api.ErrForm},
		{"1\n", 0, api.ErrForm},
		{"\u0661", 0, api.ErrForm},
		{"1\uff11", 0, api.ErrForm},
		{"\xff", 0, api.ErrForm},
		{"1\xb1", 0, api.ErrForm},
		{nines + "x", 0, api.ErrForm},
		{"9223372036854775808 ", 0, api.ErrForm},
	} {
		if n, e := Read(c.s); n != c.want || e != c.code {
			t.Errorf("Read(%q) = %d, %d; want %d, %d", c.s, n, e, c.want, c.code)
		}
	}
}

// P1.1: of all single bytes only the ten digits are numbers.
func TestReadOfSingleBytes(t *testing.T) {
	for b := range 256 {
		want, code := int64(0), api.ErrForm
		if '0' <= b && b <= '9' {
			want, code = int64(b-'0'), api.OK
		}
		if n, e := Read(string([]byte{byte(b)})); n != want || e != code {
			t.Errorf("Read of the byte %d = %d, %d; want %d, %d", b, n, e, want, code)
		}
	}
}

// P1.1: Dec, and Read of what it wrote.
func TestDec(t *testing.T) {
	for n, want := range map[int64]string{0: "0", 7: "7", -1: "-1", 10: "10", -100: "-100", most: "9223372036854775807", least: "-9223372036854775808"} {
		if s := Dec(n); s != want {
			t.Errorf("Dec(%d) = %q; want %q", n, s, want)
		}
	}
	for _, a := range edges() {
		if s, want := Dec(a), big.NewInt(a).String(); s != want {
			t.Errorf("Dec(%d) = %q; want %q", a, s, want)
		}
		if n, e := Read(Dec(a)); a >= 0 && (n != a || e != api.OK) || a < 0 && e != api.ErrForm {
			t.Errorf("Read(Dec(%d)) = %d, %d", a, n, e)
		}
	}
}

// P2: no earlier call, failed or not, changes a later one.
func TestCallsDoNotHangOnEarlierOnes(t *testing.T) {
	for range 3 {
		if n, e := Read("99999999999999999999"); n != 0 || e != api.ErrOver {
			t.Fatal(n, e)
		}
		if n, e := Read("12"); n != 12 || e != api.OK {
			t.Fatal(n, e)
		}
		if n, e := Div(1, 0); n != 0 || e != api.ErrZero {
			t.Fatal(n, e)
		}
		if n, e := Add(1, 2); n != 3 || e != api.OK || Dec(n) != "3" {
			t.Fatal(n, e)
		}
	}
}
