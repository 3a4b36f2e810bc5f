package feed

import (
	"encoding/binary"
	"encoding/hex"
	"fmt"
	"hash/crc32"
	"math"
	"slices"
	"strings"
	"sync"
	"testing"

	"outcry/api"
)

func newFeed(t *testing.T, symbols ...string) *Feed {
	t.Helper()
	f, e := New(symbols)
	if f == nil || e != api.OK {
		t.Fatalf("New(%q): %v, %d", symbols, f, e)
	}
	return f
}

// same: packets are these, byte by byte.
func same(t *testing.T, what string, got [][]byte, want ...string) {
	t.Helper()
	if len(got) != len(want) {
		t.Fatalf("%s: %d packets, want %d: %x", what, len(got), len(want), got)
	}
	for i := range got {
		if string(got[i]) != want[i] {
			t.Fatalf("%s: packet %d:\n%x, want\n%x", what, i, got[i], want[i])
		}
	}
}

func texts(l [][]byte) []string {
	var out []string
	for _, b := range l {
		out = append(out, string(b))
	}
	return out
}

// sealed gives the bytes that are written in hex, and their Crc behind them.
func sealed(t *testing.T, written string) string {
	t.Helper()
	b, err := hex.DecodeString(strings.ReplaceAll(written, " ", ""))
	if err != nil {
		t.Fatal(err)
	}
	return string(binary.BigEndian.AppendUint32(b, crc32.ChecksumIEEE(b)))
}

func level(symbol string, side int, price, qty int64, orders int) api.Event {
	return api.Event{Kind: api.EvLevel, Symbol: symbol, Side: side, Level: api.Level{Price: price, Qty: qty, Orders: orders}}
}

func trade(symbol string, price, qty int64) api.Event {
	return api.Event{Kind: api.EvTrade, Symbol: symbol, Side: api.Buy, F: api.Fill{Price: price, Qty: qty}}
}

func phase(symbol string, p int) api.Event {
	return api.Event{Kind: api.EvPhase, Symbol: symbol, Phase: p}
}

func auction(symbol string, price, qty, over int64, side int) api.Event {
	return api.Event{Kind: api.EvAuction, Symbol: symbol, Level: api.Level{Price: price, Qty: qty}, F: api.Fill{Qty: over}, Side: side}
}

func TestD1New(t *testing.T) {
	eight := []string{"A", "AB", "A1", "ABCDEFGH", "Z9999999", "B", "C", "D"}
	for many := 1; many <= 8; many++ {
		f := newFeed(t, eight[:many]...)
		if n := f.Next(); n != 1 {
			t.Errorf("Next of a new one: %d", n)
		}
		same(t, "Again of a new one", f.Again(math.MinInt, math.MaxInt))
		written := "00000000 02 00 01 0e"
		for place := range many {
			written += fmt.Sprintf(" 03 %02x 00", place)
		}
		same(t, "Snapshot of a new one", f.Snapshot(7), sealed(t, written))
		for place, symbol := range eight {
			told := f.Tell([]api.Event{phase(symbol, 1)}, 0)
			if (len(told) == 1) != (place < many) || len(told) == 1 && told[0][9] != byte(place) {
				t.Errorf("of %d instruments, the one at %d: %x", many, place, told)
			}
		}
	}
}

func TestD1NoFeed(t *testing.T) {
	refused := func(l []string) {
		t.Helper()
		if f, e := New(l); f != nil || e != api.ErrArg {
			t.Errorf("New(%q): %v, %d", l, f, e)
		}
	}
	refused(nil)
	refused([]string{})
	eight := []string{"A", "AB", "A1", "ABCDEFGH", "Z9999999", "B", "C", "D"}
	refused(append(slices.Clone(eight), "E"))
	refused(append(slices.Clone(eight), "A"))
	refused(make([]string, 100000))
	for at := range eight {
		for _, wrong := range []string{"", "a", "1", "1A", "ABCDEFGHI", "A B", "A-", "Ä", "A\x00", " A", "A|", strings.Repeat("A", 100000)} {
			l := slices.Clone(eight)
			l[at] = wrong
			refused(l)
			refused([]string{wrong})
		}
		for other := range at {
			l := slices.Clone(eight)
			l[at] = l[other]
			refused(l)
		}
	}
	newFeed(t, eight...)
}

func TestChapterExamples(t *testing.T) {
	f := newFeed(t, "ABC")
	first := sealed(t, "00000001 01 0000 0e  01 00 01 d00f 64 02  02 00 00 28  01 00 01 00 27 00")
	same(t, "Tell", f.Tell([]api.Event{level("ABC", 1, 1000, 50, 1), trade("ABC", 1000, 20), level("ABC", 1, 1000, 30, 1)}, 7), first)
	same(t, "Again", f.Again(1, 1), first)
	same(t, "Snapshot", f.Snapshot(7), sealed(t, "00000001 02 0001 0e  03 00 00  05 00 d00f 28 28  01 00 01 00 3c 02"))
}

// TestD2EachKind has one event of each kind that is told, byte by byte.
func TestD2EachKind(t *testing.T) {
	full := api.Event{Owner: 9, Name: "n", O: api.Order{ID: 8, Price: 77, Qty: 6}, Err: 5, F: api.Fill{Buy: 4, Sell: 3, Taker: 2, Price: 100, Qty: 5}, Level: api.Level{Price: 200, Qty: 7, Orders: 3}, Phase: 4, Count: 2, Symbol: "XY"}
	for _, x := range []struct {
		kind, side int
		written    string
	}{
		{api.EvTrade, 1, "02 01 c801 0a"},
		{api.EvPhase, 0, "03 01 08"},
		{api.EvPhase, 1, "03 01 08"},
		{api.EvPhase, 2, "03 01 08"},
		{api.EvAuction, 0, "04 01 9003 0e 0a 00"},
		{api.EvAuction, 1, "04 01 9003 0e 0a 02"},
		{api.EvAuction, 2, "04 01 9003 0e 0a 04"},
		{api.EvLevel, 1, "01 01 01 9003 0e 06"},
		{api.EvLevel, 2, "01 01 02 9003 0e 06"},
	} {
		e := full
		e.Kind, e.Side = x.kind, x.side
		f := newFeed(t, "ABC", "XY")
		same(t, x.written, f.Tell([]api.Event{e}, 0), sealed(t, "00000001 01 0000 00 "+x.written))
	}
}

// TestD2WhatIsLetBe: such events alone make no packet, and change nothing; among others they leave no trace.
func TestD2WhatIsLetBe(t *testing.T) {
	full := api.Event{Symbol: "ABC", Side: 1, F: api.Fill{Price: 100, Qty: 5}, Level: api.Level{Price: 200, Qty: 7, Orders: 3}, Phase: 4}
	var l []api.Event
	for _, kind := range []int{math.MinInt, -3, -1, 0, 1, 2, 4, 5, 6, 7, 11, 12, 259, 264, 265, 266, math.MaxInt} {
		e := full
		e.Kind = kind
		l = append(l, e)
	}
	for _, symbol := range []string{"", "abc", "ABC ", "AB", "ABCD", "NO"} {
		for _, kind := range []int{api.EvTrade, api.EvPhase, api.EvLevel, api.EvAuction} {
			e := full
			e.Kind, e.Symbol = kind, symbol
			l = append(l, e)
		}
	}
	for _, side := range []int{math.MinInt, -1, 0, 3, 257, 258, math.MaxInt} {
		e := full
		e.Side = side
		e.Kind = api.EvTrade
		l = append(l, e)
		e.Kind = api.EvLevel
		l = append(l, e)
	}
	sold := full
	sold.Kind, sold.Side = api.EvTrade, api.Sell
	l = append(l, sold)
	for _, price := range []int64{math.MinInt64, -1, 0, api.MaxPrice + 1, math.MaxInt64} {
		l = append(l, level("ABC", 1, price, 5, 1), level("ABC", 2, price, 5, 1))
	}
	for _, orders := range []int{0, -1, math.MinInt} { // gone, and was not there
		l = append(l, level("ABC", 1, 50, 5, orders), level("ABC", 2, 50, -5, orders))
	}
	l = append(l, level("ABC", 1, 1000, 5, 2)) // as it was told
	f := newFeed(t, "ABC", "XY")
	f.Tell([]api.Event{level("ABC", 1, 1000, 5, 2), trade("ABC", 7, 3), phase("ABC", 2)}, 0)
	was := f.Snapshot(0)
	for _, e := range l {
		same(t, "an event to be let be", f.Tell([]api.Event{e}, 0))
	}
	same(t, "all of them", f.Tell(l, 0))
	same(t, "none", f.Tell(nil, 0))
	same(t, "none", f.Tell([]api.Event{}, 0))
	same(t, "Snapshot", f.Snapshot(0), texts(was)...)
	if f.Next() != 2 {
		t.Errorf("Next: %d", f.Next())
	}
	among := slices.Concat(l, []api.Event{trade("ABC", 6, 1)}, l, []api.Event{phase("XY", 1)}, l)
	same(t, "among others", f.Tell(among, 0), sealed(t, "00000002 01 0000 00  02 00 0c 02  03 01 02"))
}

func TestD2Levels(t *testing.T) {
	f := newFeed(t, "ABC")
	for i, x := range []struct {
		e       api.Event
		written string
	}{
		{level("ABC", 1, 1, 5, 1), "01 00 01 02 0a 02"},
		{level("ABC", 1, api.MaxPrice, 5, 1), "01 00 01 80a8d6b907 0a 02"},
		{level("ABC", 2, 1, 0, 1), "01 00 02 02 00 02"},                               // a level of nothing is one
		{level("ABC", 2, 1, 0, 2), "01 00 02 02 00 02"},                               // one order more
		{level("ABC", 2, 1, -3, 2), "01 00 02 02 05 00"},                              // any quantity
		{level("ABC", 2, 1, math.MaxInt64, 2), "01 00 02 02 fbffffffffffffffff01 00"}, // 2^63 + 2 more, which wraps round
		{level("ABC", 2, 1, math.MinInt64, 2), "01 00 02 02 02 00"},                   // one more, likewise
		{level("ABC", 2, 1, math.MinInt64, math.MaxInt), "01 00 02 02 00 faffffffffffffffff01"},
		{level("ABC", 2, 1, 7, 0), "01 00 02 02 ffffffffffffffffff01 fdffffffffffffffff01"}, // gone: 7 does not count
		{level("ABC", 2, 1, 7, 1), "01 00 02 02 0e 02"},                                     // there again
		{level("ABC", 2, 1, 7, -1), "01 00 02 02 0d 01"},                                    // gone
		{level("ABC", 1, 1, 5, 3), "01 00 01 02 00 04"},                                     // orders alone
		{level("ABC", 1, 1, 4, 3), "01 00 01 02 01 00"},                                     // quantity alone
		{level("ABC", 1, 1, 4, math.MinInt), "01 00 01 02 07 05"},                           // gone
	} {
		same(t, x.written, f.Tell([]api.Event{x.e}, 0), sealed(t, fmt.Sprintf("%08x 01 0000 00 ", i+1)+x.written))
		same(t, "once more", f.Tell([]api.Event{x.e}, 0))
	}
	same(t, "Snapshot", f.Snapshot(0), sealed(t, "0000000e 02 0001 00  03 00 00  01 00 01 80a8d6b907 0a 02"))
}

// TestD2WithinOneCall: what a call has told counts for what it tells next.
func TestD2WithinOneCall(t *testing.T) {
	f := newFeed(t, "ABC")
	f.Tell([]api.Event{level("ABC", 1, 10, 5, 1)}, 0)
	l := []api.Event{
		level("ABC", 1, 10, 5, 1), // as it is
		level("ABC", 1, 10, 6, 1),
		level("ABC", 1, 10, 6, 1), // as it is by now
		level("ABC", 1, 10, 5, 1), // as it was ahead of the call, but not as it is
		level("ABC", 1, 10, 9, 0),
		level("ABC", 1, 10, 8, 0), // gone already
		level("ABC", 1, 10, 5, 1),
		level("ABC", 2, 10, 5, 1), // the other side
		level("ABC", 2, 10, 0, 0),
	}
	same(t, "Tell", f.Tell(l, 0), sealed(t, "00000002 01 0000 00  01 00 01 14 02 00  01 00 01 00 01 00  01 00 01 00 09 01  01 00 01 00 0a 02  01 00 02 00 0a 02  01 00 02 00 09 01"))
	same(t, "Snapshot", f.Snapshot(0), sealed(t, "00000002 02 0001 00  03 00 00  01 00 01 14 0a 02"))
}

// TestD2AnyNumbers: numbers that nobody bounds are told as they are.
func TestD2AnyNumbers(t *testing.T) {
	const least, greatest = "ffffffffffffffffff01", "feffffffffffffffff01"
	f := newFeed(t, "A")
	l := []api.Event{
		phase("A", math.MinInt), phase("A", math.MaxInt), phase("A", -1),
		trade("A", math.MinInt64, math.MaxInt64),
		trade("A", math.MaxInt64, math.MinInt64), // 2^64 - 1 more: -1
		trade("A", 0, 0),                         // 2^63 - 1 less
		auction("A", 1, -1, math.MinInt64, math.MaxInt),
		auction("A", -1, math.MaxInt64, 0, -1),
	}
	same(t, "Tell", f.Tell(l, math.MinInt64), sealed(t, "00000001 01 0000 "+least+" 03 00 "+least+" 03 00 "+greatest+" 03 00 01 02 00 "+least+greatest+" 02 00 01 "+least+" 02 00 fdffffffffffffffff01 00 04 00 02 01 "+least+greatest+" 04 00 03 "+greatest+" 00 01"))
	same(t, "Snapshot", f.Snapshot(math.MaxInt64), sealed(t, "00000001 02 0001 "+greatest+" 03 00 01  05 00 00 00 01"))
}

// TestD2PricesFollow: each instrument's own prices, of all kinds, follow one another; phases let them be.
func TestD2PricesFollow(t *testing.T) {
	f := newFeed(t, "A", "B", "C")
	l := []api.Event{
		trade("B", 10, 1), level("A", 1, 20, 1, 1), auction("B", 13, 1, 0, 0), phase("A", 3), level("A", 2, 21, 1, 1), phase("B", 3),
		trade("A", 19, 1), level("B", 1, 11, 1, 1), auction("A", 18, 1, 0, 0), trade("C", 5, 1), trade("B", 11, 1), level("C", 1, 5, 1, 1),
	}
	same(t, "Tell", f.Tell(l, 0), sealed(t, "00000001 01 0000 00  02 01 14 02  01 00 01 28 02 02  04 01 06 02 00 00  03 00 06  01 00 02 02 02 02  03 01 06  02 00 03 02  01 01 01 03 02 02  04 00 01 02 00 00  02 02 0a 02  02 01 00 02  01 02 01 00 02 02"))
	same(t, "the next packet", f.Tell([]api.Event{trade("A", 18, 1)}, 0), sealed(t, "00000002 01 0000 00  02 00 24 02"))
}

// TestD3Room fills packets up to their last byte: the time's length counts, and one byte more goes into the next packet.
func TestD3Room(t *testing.T) {
	for _, now := range []int64{0, 64, 8192, 1 << 20, 1 << 27, 1 << 34, 1 << 41, 1 << 48, 1 << 55, math.MaxInt64, -1, math.MinInt64} {
		size := len(binary.AppendVarint(nil, now))
		room := 400 - 7 - 4 - size
		var l []api.Event
		left := room
		for left >= 6 { // of three bytes each
			l = append(l, phase("A", 1))
			left -= 3
		}
		last := map[int]int{3: 1, 4: 64, 5: 8192}[left]
		over := map[int]int{3: 64, 4: 8192, 5: 1 << 20}[left]
		f := newFeed(t, "A")
		told := f.Tell(append(slices.Clone(l), phase("A", last)), now)
		if len(told) != 1 || len(told[0]) != 400 {
			t.Fatalf("the time %d: %d packets: %x", now, len(told), told)
		}
		told = f.Tell(append(slices.Clone(l), phase("A", over)), now)
		if len(told) != 2 || len(told[0]) != 400-left || len(told[1]) != 11+size+left+1 {
			t.Fatalf("the time %d: %d packets: %x", now, len(told), told)
		}
		told = f.Tell(append(slices.Clone(l), phase("A", over), phase("A", 0)), now)
		if len(told) != 2 || len(told[1]) != 11+size+left+1+3 {
			t.Fatalf("the time %d: a notice has gone ahead of one that had no room: %x", now, told)
		}
		if f.Next() != 6 {
			t.Errorf("Next: %d", f.Next())
		}
	}
}

// TestD3PricesBeginAnew: in the next packet an instrument's price is told whole, so that a notice may be longer there.
func TestD3PricesBeginAnew(t *testing.T) {
	f := newFeed(t, "A", "B")
	l := []api.Event{trade("B", 900000000, 1)}
	for range 96 {
		l = append(l, trade("A", 1000000000, 1))
	}
	// 8 bytes up to the notices, 8 of the first one of each, 93 times 4, and 4 of the Crc are 400.
	told := f.Tell(append(l, trade("B", 900000001, 1)), 0)
	same(t, "Tell", told,
		sealed(t, "00000001 01 0000 00  02 01 80a4a7da06 02  02 00 80a8d6b907 02"+strings.Repeat(" 02 00 00 02", 93)),
		sealed(t, "00000002 01 0000 00  02 00 80a8d6b907 02  02 00 00 02  02 01 82a4a7da06 02"))
	if len(told[0]) != 400 {
		t.Errorf("%d bytes", len(told[0]))
	}
}

// TestD3DifferencesGoOn: unlike prices, levels are told by what earlier packets told.
func TestD3DifferencesGoOn(t *testing.T) {
	f := newFeed(t, "A")
	var l []api.Event
	for n := range int64(66) { // the first has 7 bytes, each other one 6
		l = append(l, level("A", 1, 1000, 10+n, 1))
	}
	want := "00000001 01 0000 00  01 00 01 d00f 14 02" + strings.Repeat(" 01 00 01 00 02 00", 63)
	same(t, "Tell", f.Tell(l, 0), sealed(t, want), sealed(t, "00000002 01 0000 00  01 00 01 d00f 02 00  01 00 01 00 02 00"))
	same(t, "Snapshot", f.Snapshot(0), sealed(t, "00000002 02 0001 00  03 00 00  01 00 01 d00f 9601 02"))
}

// many gives events for so many packets: of each but the last one 129, with three bytes each, which fill it but for one byte, if its time has one byte.
func many(packets int) []api.Event {
	var l []api.Event
	for range 129*(packets-1) + 1 {
		l = append(l, phase("A", 1))
	}
	return l
}

func TestD3Numbers(t *testing.T) {
	f := newFeed(t, "A")
	next := 1
	for _, packets := range []int{1, 2, 0, 5, 300, 1, 0, 1} {
		told := f.Tell(many(packets), 0)
		if len(told) != packets {
			t.Fatalf("%d packets, want %d", len(told), packets)
		}
		for i, b := range told {
			if n := binary.BigEndian.Uint32(b); int(n) != next+i {
				t.Errorf("the number %d, want %d", n, next+i)
			}
		}
		next += packets
		if f.Next() != next {
			t.Errorf("Next: %d, want %d", f.Next(), next)
		}
	}
}

// TestD3TheLastNumber: a call whose packets go beyond MaxSeq tells nothing, and takes nothing in.
func TestD3TheLastNumber(t *testing.T) {
	f := newFeed(t, "A")
	f.Tell([]api.Event{level("A", 1, 5, 5, 1), level("A", 1, 6, 5, 1), trade("A", 4, 4)}, 0)
	f.kept, f.next = nil, api.MaxSeq-2
	same(t, "the first one", f.Tell(many(1), 0), sealed(t, "3b9ac9fd 01 0000 00 03 00 02"))
	was := texts(f.Snapshot(0))
	change := []api.Event{level("A", 1, 5, 0, 0), level("A", 1, 6, 7, 2), level("A", 2, 7, 7, 2), trade("A", 9, 9), phase("A", 4)}
	for _, packets := range []int{3, 4, 300} {
		same(t, "too many", f.Tell(slices.Concat(change, many(packets)), 0))
		if f.Next() != api.MaxSeq-1 {
			t.Errorf("Next: %d", f.Next())
		}
		same(t, "Snapshot", f.Snapshot(0), was...)
		same(t, "Again", f.Again(1, math.MaxInt), sealed(t, "3b9ac9fd 01 0000 00 03 00 02"))
	}
	told := f.Tell(append(many(2), trade("A", 5, 5)), 0)
	if len(told) != 2 || string(told[0][:4]) != "\x3b\x9a\xc9\xfe" || string(told[1][:4]) != "\x3b\x9a\xc9\xff" || f.Next() != api.MaxSeq+1 {
		t.Fatalf("up to the last number: %x; Next: %d", told, f.Next())
	}
	last := texts(f.Snapshot(0))
	for _, l := range [][]api.Event{{phase("A", 2)}, {level("A", 1, 5, 0, 0)}, change, nil} {
		same(t, "behind the last number", f.Tell(l, 0))
	}
	same(t, "Snapshot", f.Snapshot(0), last...)
	if last[0][:4] != "\x3b\x9a\xc9\xff" || f.Next() != api.MaxSeq+1 {
		t.Errorf("a snapshot as of %x; Next: %d", last[0][:4], f.Next())
	}
	same(t, "Again", f.Again(api.MaxSeq-1, math.MaxInt), texts(told)...)
}

// TestD4LastAndAll: all that was traded is a sum that stays in 64 bits.
func TestD4LastAndAll(t *testing.T) {
	f := newFeed(t, "A", "B")
	for _, x := range []struct{ price, qty, all int64 }{
		{0, 0, 0}, // a trade all the same
		{5, 7, 7},
		{6, -9, -2},
		{-6, math.MaxInt64, math.MaxInt64 - 2},
		{1, 3, math.MaxInt64 - 2}, // it would leave 64 bits
		{1, 2, math.MaxInt64},
		{2, 1, math.MaxInt64},
		{2, math.MaxInt64, math.MaxInt64},
		{3, math.MinInt64, -1},
		{3, math.MinInt64, -1},
		{4, -math.MaxInt64, math.MinInt64},
		{5, -1, math.MinInt64},
		{5, math.MinInt64, math.MinInt64},
		{7, 1, math.MinInt64 + 1},
	} {
		f.Tell([]api.Event{trade("A", x.price, x.qty), {Kind: api.EvTrade, Side: api.Sell, Symbol: "A", F: api.Fill{Price: 99, Qty: 99}}, auction("A", 98, 98, 98, 1)}, 0)
		want := chapterPacket(f.Next()-1, 2, 0, 1, 0, []saying{{kind: 3, numbers: []int64{0}}, {kind: 5, numbers: []int64{x.price, x.qty, x.all}}, {kind: 3, place: 1, numbers: []int64{0}}})
		same(t, "Snapshot", f.Snapshot(0), want)
	}
}

func TestD4Phases(t *testing.T) {
	f := newFeed(t, "A", "B")
	for p := range 6 {
		f.Tell([]api.Event{phase("A", 9), phase("A", p)}, 0)
		f.Tell([]api.Event{phase("B", 5-p)}, 0)
		want := chapterPacket(2*p+2, 2, 0, 1, 3, []saying{{kind: 3, numbers: []int64{int64(p)}}, {kind: 3, place: 1, numbers: []int64{int64(5 - p)}}})
		same(t, "Snapshot", f.Snapshot(3), want)
	}
	if told := f.Tell([]api.Event{phase("A", 5)}, 0); len(told) != 1 {
		t.Errorf("a phase that it has already: %x", told)
	}
}

// TestD4GoneLevelsAreForgotten: nothing stays of levels that are gone.
func TestD4GoneLevelsAreForgotten(t *testing.T) {
	f := newFeed(t, "A")
	for n := range int64(1000) {
		f.Tell([]api.Event{level("A", 1, 1+n, 5, 1), level("A", 2, 5000+n, 5, 1)}, n)
		f.Tell([]api.Event{level("A", 1, 1+n, 5, 0), level("A", 2, 5000+n, 5, 0), level("A", 1, 3000, n+1, 1), level("A", 1, 3000, 0, 0)}, n)
	}
	if len(f.levels) != 0 || len(f.kept) != 200 || cap(f.kept) > 1000 {
		t.Errorf("%d levels, %d packets, room for %d", len(f.levels), len(f.kept), cap(f.kept))
	}
	same(t, "Snapshot", f.Snapshot(0), sealed(t, "000007d0 02 0001 00 03 00 00"))
}

// spoil writes into lists and their spare room.
func spoil(l [][]byte) {
	for _, b := range l {
		b = b[:cap(b)]
		for i := range b {
			b[i] ^= 0xa5
		}
	}
	clear(l[:cap(l)])
}

// TestD5Memory writes into all that comes out and into what was handed in.
func TestD5Memory(t *testing.T) {
	symbols := []string{"A", "B"}
	f, e := New(symbols)
	if e != api.OK {
		t.Fatal(e)
	}
	symbols[0], symbols[1] = "B", "X"
	room := append(many(3), level("A", 1, 5, 5, 1), level("B", 1, 6, 6, 1), trade("X", 1, 1))
	was := slices.Clone(room)
	c := newChapterFeed("A", "B")
	want := c.tell(room[:len(room)-1], 0)
	told := f.Tell(room[:len(room)-1], 0)
	same(t, "Tell", told, want...)
	if !slices.Equal(room, was) {
		t.Error("the events were written into")
	}
	clear(room)
	for i := range told { // into one at a time: the others stay
		spoil(told[i : i+1 : i+1])
		same(t, "the others", told[i+1:], want[i+1:]...)
	}
	_ = append(told[:0], nil, nil, nil)
	same(t, "Again", f.Again(1, 9), want...)
	spoil(f.Again(1, 9))
	again := f.Again(1, 9)
	spoil(again[:1:1])
	same(t, "the others", again[1:], want[1:]...)
	same(t, "Again", f.Again(1, 9), want...)
	shot := c.snapshot(0)
	spoil(f.Snapshot(0))
	same(t, "Snapshot", f.Snapshot(0), shot...)
	same(t, "Tell", f.Tell([]api.Event{level("A", 1, 5, 5, 1), level("B", 1, 6, 6, 1), trade("X", 1, 1)}, 0))
}

// TestD5TheLast200 tells packets one by one and many at once.
func TestD5TheLast200(t *testing.T) {
	for _, rows := range [][]int{{1}, {199}, {200}, {201}, {450}, {199, 1}, {200, 1}, {150, 150}, {100, 500, 3}, {1000, 199}, {1, 1, 198, 1, 1, 0, 7}} {
		f := newFeed(t, "A")
		var all []string
		for i, packets := range rows {
			all = append(all, texts(f.Tell(many(packets), int64(i)))...)
			first := max(1, len(all)-199)
			kept := all[first-1:]
			same(t, "all", f.Again(math.MinInt, math.MaxInt), kept...)
			same(t, "all", f.Again(first, len(all)), kept...)
			same(t, "all and one ahead", f.Again(first-1, len(all)+1), kept...)
			same(t, "those that are gone", f.Again(1, first-1))
			same(t, "the first", f.Again(first, first), kept[0])
			same(t, "the first", f.Again(0, first), kept[0])
			same(t, "the last", f.Again(len(all), len(all)), kept[len(kept)-1])
			same(t, "what is not yet", f.Again(len(all)+1, math.MaxInt))
			if len(f.kept) > 200 {
				t.Errorf("%d are kept", len(f.kept))
			}
		}
	}
}

func TestD7Again(t *testing.T) {
	f := newFeed(t, "A")
	all := texts(f.Tell(many(5), 0))
	for from := -2; from <= 8; from++ {
		for to := -2; to <= 8; to++ {
			var want []string
			for n := from; n <= to; n++ {
				if n >= 1 && n <= 5 {
					want = append(want, all[n-1])
				}
			}
			same(t, "Again", f.Again(from, to), want...)
		}
	}
	for _, x := range [][2]int{{6, 5}, {math.MaxInt, math.MinInt}, {5, 1}, {math.MaxInt, math.MaxInt}, {math.MinInt, math.MinInt}, {math.MinInt, 0}, {0, math.MinInt}, {1 << 32, 1<<32 + 5}, {1<<32 + 1, 1<<33 + 5}} {
		same(t, "none", f.Again(x[0], x[1]))
	}
	same(t, "all", f.Again(math.MinInt, math.MaxInt), all...)
	if f.Next() != 6 {
		t.Errorf("Next: %d", f.Next())
	}
}

// TestD6Order: by places, a phase, the last trade, and levels from the best on.
func TestD6Order(t *testing.T) {
	f := newFeed(t, "A", "B")
	f.Tell([]api.Event{
		level("B", 2, 12, 1, 1), level("B", 1, 9, 2, 2), level("A", 2, 4, 1, 1), level("B", 2, 11, 3, 1), level("B", 1, 10, 1, 1),
		level("B", 2, 13, 1, 1), level("B", 1, 8, 1, 1), level("B", 2, 13, 0, 0), trade("B", 14, 2), phase("B", 3), level("A", 1, 5, 1, 1), level("A", 2, 3, 1, 1),
	}, 0)
	f.Tell([]api.Event{trade("B", 10, 3)}, 0)
	for range 20 {
		same(t, "Snapshot", f.Snapshot(1), sealed(t, "00000002 02 0001 02  03 00 00  01 00 01 0a 02 02  01 00 02 03 02 02  01 00 02 02 02 02  03 01 06  05 01 14 06 0a  01 01 01 00 02 02  01 01 01 01 04 04  01 01 01 01 02 02  01 01 02 06 06 02  01 01 02 02 02 02"))
	}
	if f.Next() != 3 {
		t.Errorf("Next: %d", f.Next())
	}
}

// TestD6ChangesNothing: who asks for snapshots is told the same as who asks for none.
func TestD6ChangesNothing(t *testing.T) {
	f, g := newFeed(t, "A"), newFeed(t, "A")
	for n := range int64(50) {
		l := []api.Event{level("A", 1+int(n%2), 1000+n%7, n%5, int(n%3)), trade("A", n, n), phase("A", int(n%6))}
		f.Snapshot(n)
		same(t, "Tell", f.Tell(l, n), texts(g.Tell(l, n))...)
	}
	same(t, "Snapshot", f.Snapshot(1), texts(g.Snapshot(1))...)
	same(t, "Again", f.Again(1, 99), texts(g.Again(1, 99))...)
}

// TestD6MostParts: a snapshot of 255 packets is told, one of 256 is not.
func TestD6MostParts(t *testing.T) {
	f, c := newFeed(t, "A"), newChapterFeed("A")
	// Of 388 bytes for notices 386 are 16 levels; beside the phase, in the first part, there is room for 15.
	const most = 15 + 254*16
	wide := func(n int) api.Event {
		return level("A", 2, 200000000+int64(n)*100000, math.MaxInt64, 1<<54)
	}
	var l []api.Event
	for n := range most {
		l = append(l, wide(n))
	}
	f.Tell(l, 0)
	c.tell(l, 0)
	parts := f.Snapshot(0)
	if len(parts) != 255 || parts[254][5] != 254 || parts[254][6] != 255 || parts[0][6] != 255 {
		t.Fatalf("%d parts", len(parts))
	}
	want := c.snapshot(0)
	same(t, "Snapshot", parts, want...)
	more := []api.Event{wide(most)}
	f.Tell(more, 0)
	same(t, "Snapshot of 256 parts", f.Snapshot(0))
	next := f.Next()
	more[0].Level.Orders = 0
	if told := f.Tell(more, 0); len(told) != 1 || f.Next() != next+1 {
		t.Errorf("%x", told)
	}
	if n := len(f.Snapshot(0)); n != 255 {
		t.Errorf("%d parts", n)
	}
	// A longer time leaves room for 15 levels in each.
	same(t, "Snapshot at a later time", f.Snapshot(math.MaxInt64))
	if n := len(f.Again(1, next)); n != 200 {
		t.Errorf("%d are kept", n)
	}
}

// TestP4FeedsAreTheirOwn: feeds have nothing to do with one another, also when goroutines use them, each its own.
func TestP4FeedsAreTheirOwn(t *testing.T) {
	var l []api.Event
	for n := range int64(2000) {
		l = append(l, level("A", 1+int(n%2), 1+n*n%97, n, int(n%4)), trade("A", n, n))
	}
	g := newFeed(t, "A")
	told, shot := texts(g.Tell(l, 5)), texts(g.Snapshot(5))
	var all sync.WaitGroup
	for range 8 {
		all.Go(func() {
			f, _ := New([]string{"A"})
			if !slices.Equal(texts(f.Tell(l, 5)), told) || !slices.Equal(texts(f.Snapshot(5)), shot) {
				t.Error("another feed tells something else")
			}
		})
	}
	all.Wait()
	if n := newFeed(t, "A").Next(); n != 1 {
		t.Errorf("Next of a new one: %d", n)
	}
}
