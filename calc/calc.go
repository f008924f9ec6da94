// Package calc is layer 1: see shared/doc/01-calc.md.
package calc

import (
	"math"
	"strconv"

	"lapidary/api"
)

// Add returns a + b.
func Add(a, b int64) (int64, api.Errno) {
	if b > 0 && a > math.MaxInt64-b || b < 0 && a < math.MinInt64-b {
		return 0, api.ErrOver
	}
	return a + b, api.OK
}

// Sub returns a - b.
func Sub(a, b int64) (int64, api.Errno) {
	if b < 0 && a > math.MaxInt64+b || b > 0 && a < math.MinInt64+b {
		return 0, api.ErrOver
	}
	return a - b, api.OK
}

// Mul returns a * b.
func Mul(a, b int64) (int64, api.Errno) {
	// -1 stands apart: dividing the wrapped product by it wraps back, and would hide the overflow.
	if b == -1 {
		return Neg(a)
	}
	if b != 0 && a*b/b != a {
		return 0, api.ErrOver
	}
	return a * b, api.OK
}

// Div returns a / b, rounded toward 0.
func Div(a, b int64) (int64, api.Errno) {
	if b == 0 {
		return 0, api.ErrZero
	}
	if b == -1 {
		return Neg(a)
	}
	return a / b, api.OK
}

// Mod returns what Div leaves over.
func Mod(a, b int64) (int64, api.Errno) {
	if b == 0 {
		return 0, api.ErrZero
	}
	return a % b, api.OK
}

// Neg returns -a.
func Neg(a int64) (int64, api.Errno) {
	if a == math.MinInt64 {
		return 0, api.ErrOver
	}
	return -a, api.OK
}

// Read returns the number that the digits of s write.
func Read(s string) (int64, api.Errno) {
	if s == "" {
		return 0, api.ErrForm
	}
	n, e := int64(0), api.OK
	for _, r := range s {
		if r < '0' || r > '9' {
			return 0, api.ErrForm
		}
		// A number beyond the bound is still looked through: what is no digit comes first.
		if e == api.OK {
			n, e = extend(n, int64(r-'0'))
		}
	}
	return n, e
}

// extend returns the number that n's digits write with one more behind them.
func extend(n, digit int64) (int64, api.Errno) {
	n, e := Mul(n, 10)
	if e != api.OK {
		return 0, e
	}
	return Add(n, digit)
}

// Dec writes n in digits.
func Dec(n int64) string {
	return strconv.FormatInt(n, 10)
}
