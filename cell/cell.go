// Package cell is layer 2: see shared/doc/02-cell.md.
package cell

import (
	"cmp"
	"strings"
	"unicode/utf8"

	"lapidary/api"
	"lapidary/calc"
)

// open takes out what v holds: nil for Null, a bool, an int64 or a string.
func open(v api.Value) any {
	switch v.Kind {
	case api.Null:
		return nil
	case api.Bool:
		return v.B
	case api.Int:
		return v.I
	case api.Text:
		return v.S
	}
	// A kind that does not exist stands for itself, so that nobody takes it for Null.
	return v.Kind
}

// pack makes the value that holds x, with all other fields zero.
func pack(x any) api.Value {
	switch x := x.(type) {
	case bool:
		return api.Value{Kind: api.Bool, B: x}
	case int64:
		return api.Value{Kind: api.Int, I: x}
	case string:
		return api.Value{Kind: api.Text, S: x}
	}
	return api.Value{}
}

// Right reports whether v is valid.
func Right(v api.Value) bool {
	x := open(v)
	if s, ok := x.(string); ok && !sound(s) {
		return false
	}
	return v == pack(x)
}

// sound reports whether a text may be s.
func sound(s string) bool {
	return len(s) <= api.MaxText && utf8.ValidString(s) && strings.IndexByte(s, 0) < 0
}

// rank tells kinds apart by their order, which is not that of api's numbers.
func rank(x any) int {
	switch x.(type) {
	case nil:
		return 0
	case bool:
		return 1
	case int64:
		return 2
	case string:
		return 3
	}
	return 4
}

// order compares two of the same rank: -1, 0 or 1.
func order(x, y any) int {
	switch x := x.(type) {
	case bool:
		return orderBools(x, y.(bool))
	case int64:
		return cmp.Compare(x, y.(int64))
	case string:
		return cmp.Compare(x, y.(string))
	}
	return 0
}

// orderBools compares two of them: false comes first.
func orderBools(a, b bool) int {
	if a == b {
		return 0
	}
	if b {
		return -1
	}
	return 1
}

// Less reports whether a comes ahead of b among all values.
func Less(a, b api.Value) bool {
	x, y := open(a), open(b)
	if rank(x) != rank(y) {
		return rank(x) < rank(y)
	}
	return order(x, y) < 0
}

// Same reports whether neither of a and b is less.
func Same(a, b api.Value) bool {
	return !Less(a, b) && !Less(b, a)
}

// Compare compares a and b as SQL does: false, where that is unknown.
func Compare(a, b api.Value) (int, bool, api.Errno) {
	x, y := open(a), open(b)
	if x == nil || y == nil {
		return 0, false, api.OK
	}
	if rank(x) != rank(y) {
		return 0, false, api.ErrType
	}
	return order(x, y), true, api.OK
}

// And is true where both are.
func And(a, b api.Value) (api.Value, api.Errno) {
	return join(open(a), open(b), false)
}

// Or is true where one is.
func Or(a, b api.Value) (api.Value, api.Errno) {
	return join(open(a), open(b), true)
}

// join joins two truths, of which one that is strong decides alone, whatever the other is.
func join(x, y any, strong bool) (api.Value, api.Errno) {
	if !truth(x) || !truth(y) {
		return api.Value{}, api.ErrType
	}
	if is(x, strong) || is(y, strong) {
		return pack(strong), api.OK
	}
	if x == nil || y == nil {
		return pack(nil), api.OK
	}
	return pack(!strong), api.OK
}

// Not turns a truth round.
func Not(a api.Value) (api.Value, api.Errno) {
	x := open(a)
	if !truth(x) {
		return api.Value{}, api.ErrType
	}
	if x == nil {
		return pack(nil), api.OK
	}
	return pack(!x.(bool)), api.OK
}

// truth reports whether x is one, known or not.
func truth(x any) bool {
	switch x.(type) {
	case nil, bool:
		return true
	}
	return false
}

// is reports whether x is known to be want.
func is(x any, want bool) bool {
	b, ok := x.(bool)
	return ok && b == want
}

// Literal writes v as SQL does.
func Literal(v api.Value) string {
	switch x := open(v).(type) {
	case nil:
		return "NULL"
	case bool:
		if x {
			return "TRUE"
		}
		return "FALSE"
	case int64:
		return calc.Dec(x)
	case string:
		return "'" + strings.ReplaceAll(x, "'", "''") + "'"
	}
	return ""
}
