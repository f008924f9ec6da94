// Package samples makes values and versions that the tests of several layers try.
package samples

import (
	"bytes"
	"math"
	"strings"

	"lapidary/api"
)

// Number is the value n.
func Number(n int64) api.Value { return api.Value{Kind: api.Int, I: n} }

// Text is the value s.
func Text(s string) api.Value { return api.Value{Kind: api.Text, S: s} }

// Truth is the value b.
func Truth(b bool) api.Value { return api.Value{Kind: api.Bool, B: b} }

// Ascending lists valid values, each of them less than those behind it.
func Ascending() []api.Value {
	long := strings.Repeat("a", api.MaxText-1)
	return []api.Value{
		{},
		Truth(false), Truth(true),
		Number(math.MinInt64), Number(math.MinInt64 + 1), Number(-1 << 32), Number(-257), Number(-256), Number(-255), Number(-2), Number(-1),
		Number(0), Number(1), Number(2), Number(255), Number(256), Number(1 << 32), Number(math.MaxInt64 - 1), Number(math.MaxInt64),
		Text(""), Text("\x01"), Text("\x02"), Text("\x03\x7f"), Text("\x04"), Text("\n\t\x7f"), Text(" "), Text("'"), Text("-1"), Text("0"), Text("10"), Text("2"), Text("A"), Text("Z"),
		Text("a"), Text("a\x01"), Text("aa"), Text(long), Text(long + "\x01"), Text(long + "a"), Text("ab"), Text("b"), Text("it's"),
		Text("\u00e9"), Text(strings.Repeat("\u00e9", api.MaxText/2)), Text("\ufffd"), Text("\uffff"), Text("\U00010000"), Text("\U0010ffff"), Text(strings.Repeat("\U0010ffff", api.MaxText/4)),
	}
}

// Invalid lists values that are not valid.
func Invalid() []api.Value {
	return []api.Value{
		{Kind: 4}, {Kind: 9}, {Kind: 255}, {Kind: 4, I: 1}, {Kind: 200, S: "a"}, {Kind: 9, B: true},
		{I: 1}, {S: "a"}, {B: true},
		{Kind: api.Int, S: "a"}, {Kind: api.Int, I: 1, B: true}, {Kind: api.Int, I: -1, S: "\x00"},
		{Kind: api.Text, I: 1}, {Kind: api.Text, S: "a", B: true},
		{Kind: api.Bool, I: 1}, {Kind: api.Bool, B: true, S: "a"}, {Kind: api.Bool, B: true, I: -1},
		Text(strings.Repeat("a", api.MaxText+1)), Text(strings.Repeat("\u00e9", api.MaxText/2+1)), Text(strings.Repeat("a", 256)), Text(strings.Repeat("a", 257)), Text(strings.Repeat("a", 100000)),
		Text("\x00"), Text("a\x00"), Text("\x00a"), Text("a\x00b"),
		Text("\xff"), Text("a\xc3"), Text("\x80"), Text("\xed\xa0\x80"), Text("\xc0\x80"), Text("\xf4\x90\x80\x80"),
	}
}

// Fill overwrites p, and the memory behind it.
func Fill(p []byte) {
	p = p[:cap(p)]
	for i := range p {
		p[i] = 0xee
	}
}

// Nowhere is the Next of a version that has none.
func Nowhere() api.TID { return api.TID{Page: -1, Slot: -1} }

// Version is one that has no Next.
func Version(row uint64, data string) api.Tuple {
	return api.Tuple{Row: row, Xmin: 3, Next: Nowhere(), Data: []byte(data)}
}

// Sized is a version that has no Next and whose Data have n bytes, others for each row.
func Sized(row, n int) api.Tuple {
	data := bytes.Repeat([]byte{byte(0x81 + row)}, n)
	for i := range data {
		data[i] += byte(i % 5)
	}
	return Version(uint64(row)+1, string(data))
}

// Same compares versions.
func Same(a, b api.Tuple) bool {
	return a.Row == b.Row && a.Xmin == b.Xmin && a.Xmax == b.Xmax && a.Next == b.Next && bytes.Equal(a.Data, b.Data)
}

// Nexts lists what may be the Next of a version.
func Nexts() []api.TID {
	return []api.TID{
		Nowhere(),
		{Page: 0, Slot: 0}, {Page: 0, Slot: 1}, {Page: 1, Slot: 0}, {Page: 4, Slot: 5},
		{Page: 254, Slot: 254}, {Page: 255, Slot: 255}, {Page: 256, Slot: 256},
		{Page: 65535, Slot: 0}, {Page: 0, Slot: 65534}, {Page: 65534, Slot: 65533}, {Page: 65535, Slot: 65534},
	}
}

// InvalidNexts lists what may not.
func InvalidNexts() []api.TID {
	return []api.TID{
		{Page: -1, Slot: 0}, {Page: 0, Slot: -1}, {Page: -1, Slot: 65534}, {Page: 65535, Slot: -1}, {Page: -1, Slot: -2}, {Page: -2, Slot: -1}, {Page: -2, Slot: -2},
		{Page: 65536, Slot: 0}, {Page: 0, Slot: 65535}, {Page: 65536, Slot: 65535}, {Page: -1, Slot: 65535}, {Page: 65536, Slot: -1}, {Page: 65535, Slot: 65535}, {Page: 65536, Slot: 65534},
		{Page: 1<<32 - 1, Slot: 1<<16 - 1}, {Page: 1<<32 - 1, Slot: -1}, {Page: 1 << 32, Slot: 1 << 16}, {Page: 1 << 32, Slot: 0},
		{Page: math.MaxInt, Slot: math.MaxInt}, {Page: math.MinInt, Slot: math.MinInt}, {Page: 0, Slot: math.MinInt}, {Page: math.MinInt, Slot: 0}, {Page: math.MaxInt, Slot: -1},
	}
}

// InvalidVersions lists versions that are not valid.
func InvalidVersions() []api.Tuple {
	var l []api.Tuple
	for _, n := range []uint64{api.MaxXid + 1, api.MaxXid * 2, 1 << 63, math.MaxUint64} {
		l = append(l, api.Tuple{Row: n, Next: Nowhere()}, api.Tuple{Xmin: n, Next: Nowhere()}, api.Tuple{Xmax: n, Next: Nowhere()})
	}
	for _, next := range InvalidNexts() {
		l = append(l, api.Tuple{Row: 1, Xmin: 1, Next: next})
	}
	for _, n := range []int{api.MaxRow + 1, api.MaxRow + 2, 256, 474, 475, 1000, 100000} {
		l = append(l, Version(1, strings.Repeat("a", n)))
	}
	return l
}
