package bin

import (
	"bytes"
	"encoding/binary"
	"encoding/hex"
	"errors"
	"math"
	"math/rand"
	"slices"
	"strings"
	"testing"

	"outcry/api"
	"outcry/msg"
)

func wantMsg(t *testing.T, frame []byte, want api.Msg) {
	t.Helper()
	if m, err := Decode(frame); err != nil || m != want {
		t.Errorf("Decode(%x) = %+v, %v; want %+v", frame, m, err, want)
	}
	if b, e := Encode(want); e != api.OK || !bytes.Equal(b, frame) {
		t.Errorf("Encode(%+v) = %x, %d; want %x", want, b, e, frame)
	}
}

func wantFault(t *testing.T, frame []byte, e api.Errno, at int) {
	t.Helper()
	m, err := Decode(frame)
	f, ok := err.(*api.Fault)
	if !ok || f == nil || *f != (api.Fault{At: at, Err: e}) || m != (api.Msg{}) || !errors.Is(err, e) {
		t.Errorf("Decode(%x) = %+v, %v; want %v at %d", frame, m, err, e, at)
	}
}

// frameOf writes a message by the second reading of the chapter.
func frameOf(t *testing.T, m api.Msg) []byte {
	t.Helper()
	if e, number := msg.Valid(m); e != api.OK {
		t.Fatalf("the test's own message %+v: %d, %d", m, e, number)
	}
	return chapterFrame(m)
}

// spoilt gives a frame in which some bytes are others, with the sum that goes with them.
func spoilt(frame []byte, at int, with ...byte) []byte {
	b := bytes.Clone(frame)
	copy(b[at:], with)
	return seal(b)
}

func beat() api.Msg {
	return api.Msg{Kind: api.Heartbeat, Sender: "A", Target: "EX", Seq: 258, Time: 1, TestID: "t"}
}

func letters(n int) string { return strings.Repeat("Z", n) }

// least gives of each kind a message with nothing in it that need not be there.
func least() []api.Msg {
	all := []api.Msg{
		{Kind: api.Heartbeat},
		{Kind: api.TestRequest, TestID: "x"},
		{Kind: api.ResendRequest, Begin: 1},
		{Kind: api.Reject, RefSeq: 1},
		{Kind: api.SequenceReset, Next: 1},
		{Kind: api.Logout},
		{Kind: api.Logon, Beat: 1},
		{Kind: api.NewOrder, ID: "o", Account: "A", Symbol: "X", Side: api.Buy, Type: api.Market, Life: api.Day, Qty: 1},
		{Kind: api.CancelOrder, ID: "p", OrigID: "o", Symbol: "X", Side: api.Buy},
		{Kind: api.ReplaceOrder, ID: "p", OrigID: "o", Symbol: "X", Side: api.Buy, Qty: 1},
		{Kind: api.MassCancel, ID: "p"},
		{Kind: api.AskStatus, ID: "p", Symbol: "X", Side: api.Buy},
		{Kind: api.Execution, ID: "o", Account: "A", Symbol: "X", Side: api.Buy, Qty: 1, ExecID: 1, Exec: 1, State: 1},
		{Kind: api.CancelReject, ID: "p", OrigID: "o", State: 1},
		{Kind: api.MassReport, ID: "p"},
		{Kind: api.Refused, RefSeq: 1, RefKind: 1},
		{Kind: api.Status, Symbol: "X"},
	}
	for i := range all {
		all[i].Sender, all[i].Target, all[i].Seq = "A", "B", 1
	}
	return all
}

// most gives of each kind a message with all fields as great as they may be.
func most() []api.Msg {
	text, id, name, symbol := letters(60), letters(20), letters(12), letters(8)
	all := []api.Msg{
		{Kind: api.Heartbeat, TestID: id},
		{Kind: api.TestRequest, TestID: id},
		{Kind: api.ResendRequest, Begin: api.MaxSeq, End: api.MaxSeq},
		{Kind: api.Reject, RefSeq: api.MaxSeq, RefKind: 17, RefTag: 9999, Reason: 999, Text: text},
		{Kind: api.SequenceReset, Next: api.MaxSeq, Fill: true, Text: text},
		{Kind: api.Logout, Text: text},
		{Kind: api.Logon, Beat: 3600, Reset: true},
		{Kind: api.NewOrder, ID: id, Account: name, Symbol: symbol, Side: api.Sell, Type: api.StopLimit, Life: api.GTD, Price: api.MaxPrice, Stop: api.MaxPrice, Qty: api.MaxQty, Show: api.MaxQty, Least: api.MaxQty, Until: 99991231},
		{Kind: api.CancelOrder, ID: id, OrigID: id, Symbol: symbol, Side: api.Sell},
		{Kind: api.ReplaceOrder, ID: id, OrigID: id, Symbol: symbol, Side: api.Sell, Price: api.MaxPrice, Stop: api.MaxPrice, Qty: api.MaxQty},
		{Kind: api.MassCancel, ID: id, Account: name, Symbol: symbol, Side: api.Sell},
		{Kind: api.AskStatus, ID: id, Symbol: symbol, Side: api.Sell},
		{Kind: api.Execution, Reason: 999, Text: text, ID: id, OrigID: id, Account: name, Symbol: symbol, Side: api.Sell, Type: api.StopLimit, Life: api.PostOnly, Price: api.MaxPrice, Stop: api.MaxPrice, Qty: api.MaxQty, Show: api.MaxQty, OrderID: api.MaxSeq, ExecID: api.MaxSeq, Exec: 3, State: 6, LastPrice: api.MaxPrice, LastQty: api.MaxQty, Left: 1, Done: api.MaxQty - 1},
		{Kind: api.CancelReject, Reason: 999, Text: text, ID: id, OrigID: id, OrderID: api.MaxSeq, State: 6},
		{Kind: api.MassReport, Reason: 999, Text: text, ID: id, Symbol: symbol, Count: api.MaxSeq},
		{Kind: api.Refused, RefSeq: api.MaxSeq, RefKind: 17, Reason: 999, Text: text},
		{Kind: api.Status, Text: text, Symbol: symbol, Phase: api.Closing},
	}
	for i := range all {
		m := &all[i]
		m.Sender, m.Target, m.Seq, m.Dup, m.Time, m.OrigTime = name, name, api.MaxSeq, true, api.MaxTime, api.MaxTime
	}
	return all
}

// forEach tests messages side by side.
func forEach(t *testing.T, list []api.Msg, test func(t *testing.T, m api.Msg)) {
	for _, m := range list {
		t.Run(msg.Name(m.Kind), func(t *testing.T) {
			t.Parallel()
			test(t, m)
		})
	}
}

// The frames stand here byte by byte, spaces between their places.
func TestB1FramesByteByByte(t *testing.T) {
	for frame, m := range map[string]api.Msg{
		"4f43 0052 01 01 2027d5c1" +
			"410000000000000000000000 455800000000000000000000 00000102 00 0000000000000001 0000000000000000" +
			"7400000000000000000000000000000000000000 00000000000000": beat(),
		// A block of 48 bytes: no noughts behind it.
		"4f43 003a 07 01 6147ea98" +
			"4649524d3100000000000000 455800000000000000000000 00000001 01 0000018df4dc5495 0000018df4dc5494" +
			"0e10 01": {Kind: api.Logon, Sender: "FIRM1", Target: "EX", Seq: 1, Dup: true, Time: 1709210096789, OrigTime: 1709210096788, Beat: 3600, Reset: true},
		"4f43 007a 08 01 b5d44741" +
			"4142434445464748494a4b4c 455800000000000000000000 3b9ac9ff 00 0000e677d21fdbff 0000000000000000" +
			"3031323334353637383930313233343536373839 414343000000000000000000 4142434445464748 02 04 05" +
			"3b9aca00 00000001 000f4240 00010000 00000100 05f5bebf": {Kind: api.NewOrder, Sender: "ABCDEFGHIJKL", Target: "EX", Seq: 999999999, Time: api.MaxTime, ID: "01234567890123456789", Account: "ACC", Symbol: "ABCDEFGH", Side: 2, Type: 4, Life: 5, Price: 1000000000, Stop: 1, Qty: 1000000, Show: 65536, Least: 256, Until: 99991231},
		"4f43 00e2 0d 01 1d783ba1" +
			"455800000000000000000000 460000000000000000000000 00000007 00 0000000000000005 0000000000000000" +
			"03e7 782079" + strings.Repeat("00", 57) +
			"6100000000000000000000000000000000000000 6200000000000000000000000000000000000000 430000000000000000000000 4400000000000000 01 02 03" +
			"00000004 00000005 00000258 00000007 00000008 00000009 03 02 0000000a 0000000b 0000000c 0000000d 00000000": {Kind: api.Execution, Sender: "EX", Target: "F", Seq: 7, Time: 5, Reason: 999, Text: "x y", ID: "a", OrigID: "b", Account: "C", Symbol: "D", Side: 1, Type: 2, Life: 3, Price: 4, Stop: 5, Qty: 600, Show: 7, OrderID: 8, ExecID: 9, Exec: 3, State: 2, LastPrice: 10, LastQty: 11, Left: 12, Done: 13},
	} {
		b, err := hex.DecodeString(strings.ReplaceAll(frame, " ", ""))
		if err != nil {
			t.Fatal(err)
		}
		wantMsg(t, b, m)
	}
}

func TestB1EachKind(t *testing.T) {
	for _, list := range [][]api.Msg{least(), most()} {
		for i, m := range list {
			if m.Kind != i+1 {
				t.Fatalf("not all kinds are here: %d", m.Kind)
			}
			wantMsg(t, frameOf(t, m), m)
		}
	}
}

// What is absent is all noughts; what is there is not.
func TestB1Absent(t *testing.T) {
	for i, m := range least() {
		small, err := Encode(m)
		great, err2 := Encode(most()[i])
		if err != api.OK || err2 != api.OK {
			t.Fatalf("kind %d: %d, %d", m.Kind, err, err2)
		}
		for _, s := range plans()[m.Kind].spots {
			none := bytes.Count(small[s.at:s.at+s.size], []byte{0}) == s.size
			if absent := msg.Has(m.Kind, s.number) == 1 || slices.Contains([]int{52, 16, 373, 37, 151, 14, 326, 533}, s.number); none != absent {
				t.Errorf("kind %d, field %d: %x", m.Kind, s.number, small)
			}
			if bytes.Count(great[s.at:s.at+s.size], []byte{0}) == s.size {
				t.Errorf("kind %d, field %d: %x", m.Kind, s.number, great)
			}
		}
	}
}

func TestB1WhatMayNotBe(t *testing.T) {
	with := func(change func(m *api.Msg)) api.Msg {
		m := beat()
		change(&m)
		return m
	}
	for _, m := range []api.Msg{
		{},
		with(func(m *api.Msg) { m.Kind = 0 }),
		with(func(m *api.Msg) { m.Kind = 18 }),
		with(func(m *api.Msg) { m.Kind = -1 }),
		with(func(m *api.Msg) { m.Kind = 257 }),
		with(func(m *api.Msg) { m.Kind = math.MinInt }),
		with(func(m *api.Msg) { m.Sender = "" }),
		with(func(m *api.Msg) { m.Sender = letters(13) }),
		with(func(m *api.Msg) { m.Target = "b" }),
		with(func(m *api.Msg) { m.Target = "B\x00" }),
		with(func(m *api.Msg) { m.Seq = 0 }),
		with(func(m *api.Msg) { m.Seq = -1 }),
		with(func(m *api.Msg) { m.Seq = 1<<32 + 1 }),
		with(func(m *api.Msg) { m.Time = -1 }),
		with(func(m *api.Msg) { m.Time = api.MaxTime + 1 }),
		with(func(m *api.Msg) { m.OrigTime = 1 }),
		with(func(m *api.Msg) { m.TestID = letters(21) }),
		with(func(m *api.Msg) { m.TestID = "a\x00b" }),
		with(func(m *api.Msg) { m.Qty = 1 }),
		with(func(m *api.Msg) { m.Fill = true }),
		with(func(m *api.Msg) { m.Kind = api.TestRequest; m.TestID = "" }),
	} {
		want, _ := msg.Valid(m)
		if b, e := Encode(m); want == api.OK || e != want || len(b) != 0 {
			t.Errorf("Encode(%+v) = %x, %d; want %d", m, b, e, want)
		}
	}
}

// Of fewer than 10 bytes, the wrong byte goes first.
func TestB2Start(t *testing.T) {
	frame := frameOf(t, beat())
	wantFault(t, nil, api.ErrFrame, 0)
	wantFault(t, []byte{}, api.ErrFrame, 0)
	for n := range 10 {
		wantFault(t, frame[:n], api.ErrFrame, n)
		wantFault(t, append([]byte("OC"), bytes.Repeat([]byte{255}, n)...)[:n], api.ErrFrame, n)
	}
	for n := 1; n <= len(frame)+1; n++ {
		b := append(bytes.Clone(frame), 0)[:n]
		for _, c := range []byte{0, 'o', 'C', 'P', 'N', 0xcf, 255} {
			b[0] = c
			wantFault(t, b, api.ErrFrame, 0)
			if n > 1 {
				wantFault(t, append([]byte{c, c}, b[2:]...), api.ErrFrame, 0)
			}
		}
		b[0] = 'O'
		for _, c := range []byte{0, 'c', 'O', 'B', 'D', 0xc3, 255} {
			if n > 1 {
				b[1] = c
				wantFault(t, b, api.ErrFrame, 1)
			}
		}
	}
}

func TestB2Template(t *testing.T) {
	for _, m := range least() {
		frame := frameOf(t, m)
		for c := range 256 {
			if c < 1 || c > 17 {
				wantFault(t, spoilt(frame, 4, byte(c)), api.ErrTemplate, 4)
				wantFault(t, spoilt(frame, 4, byte(c), 0), api.ErrTemplate, 4)
			}
			if c != 1 {
				wantFault(t, spoilt(frame, 5, byte(c)), api.ErrTemplate, 5)
			}
		}
	}
	// A head alone is told by its bytes, not by its length.
	wantFault(t, []byte("OC\x00\x0a\x00\x01\x00\x00\x00\x00"), api.ErrTemplate, 4)
	wantFault(t, []byte("OC\x00\x0a\x01\x02\x00\x00\x00\x00"), api.ErrTemplate, 5)
	wantFault(t, []byte("OC\x00\x0b\x01\x01\x00\x00\x00\x00"), api.ErrLength, 2)
	wantFault(t, seal([]byte("OC\x00\x0a\x01\x01\x00\x00\x00\x00")), api.ErrBlock, 2)
}

func TestB2Length(t *testing.T) {
	for _, m := range most() {
		frame := frameOf(t, m)
		size := len(frame)
		for n := range 1024 {
			if n != size {
				wantFault(t, spoilt(frame, 2, byte(n>>8), byte(n)), api.ErrLength, 2)
			}
		}
		wantFault(t, spoilt(frame, 2, frame[3], frame[2]), api.ErrLength, 2)
		for n := 10; n < size; n++ {
			wantFault(t, frame[:n], api.ErrLength, 2)
		}
		for _, more := range []int{1, 7, 8, 256, 65536} {
			wantFault(t, seal(append(bytes.Clone(frame), make([]byte, more)...)), api.ErrLength, 2)
		}
	}
}

func TestB2Block(t *testing.T) {
	for _, m := range most() {
		frame := frameOf(t, m)
		for _, n := range []int{10, 18, len(frame) - 8, len(frame) - 1, len(frame) + 1, len(frame) + 8, len(frame) + 256, 65535} {
			if n == len(frame) {
				continue
			}
			b := make([]byte, n)
			copy(b, frame)
			wantFault(t, spoilt(b, 2, byte(n>>8), byte(n)), api.ErrBlock, 2)
		}
		for kind := 1; kind <= 17; kind++ {
			b := spoilt(frame, 4, byte(kind))
			if plans()[kind].size != len(frame) {
				wantFault(t, b, api.ErrBlock, 2)
			}
			holdAgainstChapter(t, b)
		}
	}
}

func TestB2Sum(t *testing.T) {
	for _, m := range most() {
		frame := frameOf(t, m)
		for i := 6; i < len(frame); i++ {
			for bit := range 8 {
				b := bytes.Clone(frame)
				b[i] ^= 1 << bit
				wantFault(t, b, api.ErrSum, 6)
			}
		}
		for _, sum := range []string{"\x00\x00\x00\x00", "\xff\xff\xff\xff", string([]byte{frame[9], frame[8], frame[7], frame[6]})} {
			b := bytes.Clone(frame)
			copy(b[6:], sum)
			wantFault(t, b, api.ErrSum, 6)
		}
	}
}

func TestB2Truths(t *testing.T) {
	seen := map[int]bool{}
	for _, m := range most() {
		frame := frameOf(t, m)
		for _, s := range plans()[m.Kind].spots {
			if s.form != "truth" {
				continue
			}
			seen[s.number] = true
			for c := 2; c < 256; c++ {
				wantFault(t, spoilt(frame, s.at, byte(c)), api.ErrValue, s.at)
			}
			holdAgainstChapter(t, spoilt(frame, s.at, 0))
		}
	}
	if len(seen) != 3 {
		t.Errorf("not all truths are here: %v", seen)
	}
	m := least()[api.Logon-1]
	m.Reset = true
	wantMsg(t, spoilt(frameOf(t, least()[api.Logon-1]), 57, 1), m)
}

// In a text's place a byte that is not 0 stands behind one that is 0: the first such byte is told.
func TestB2BehindTexts(t *testing.T) {
	for _, m := range most() {
		frame := frameOf(t, m)
		for _, s := range plans()[m.Kind].spots {
			if s.form != "text" {
				continue
			}
			for end := range s.size {
				for at := end + 1; at < s.size; at++ {
					place := append(bytes.Repeat([]byte("Z"), end), make([]byte, s.size-end)...)
					place[at] = byte(1 + at*37%255)
					wantFault(t, spoilt(frame, s.at, place...), api.ErrPad, s.at+at)
					place[s.size-1] = 'Z'
					wantFault(t, spoilt(frame, s.at, place...), api.ErrPad, s.at+at)
				}
			}
			holdAgainstChapter(t, spoilt(frame, s.at, make([]byte, s.size)...))
		}
	}
}

func TestB2BehindTheFields(t *testing.T) {
	without := 0
	for _, m := range most() {
		frame := frameOf(t, m)
		end := plans()[m.Kind].end
		if end == len(frame) {
			without++
		}
		for at := end; at < len(frame); at++ {
			for _, c := range []byte{1, 'Z', 0x80, 255} {
				wantFault(t, spoilt(frame, at, c), api.ErrPad, at)
				wantFault(t, spoilt(spoilt(frame, at, c), len(frame)-1, 1), api.ErrPad, at)
			}
		}
	}
	if without != 4 {
		t.Errorf("%d kinds have no noughts behind their fields; want 4", without)
	}
}

// What msg.Valid tells is told at the place of its field, whichever it is.
func TestB2WhatMayNotStand(t *testing.T) {
	frame := frameOf(t, beat())
	for _, c := range []struct {
		at   int
		with string
		want int
	}{
		{10, "a", 10},
		{10, "\x00", 10},
		{10, "A ", 10},
		{10, "\xff", 10},
		{22, "\x00\x00", 22},
		{22, "EX|", 22},
		{34, "\x00\x00\x00\x00", 34},
		{34, "\x3b\x9a\xca\x00", 34},
		{34, "\xff\xff\xff\xff", 34},
		{39, "\x00\x00\xe6\x77\xd2\x1f\xdc\x00", 39},
		{39, "\x7f\xff\xff\xff\xff\xff\xff\xff", 39},
		{47, "\x00\x00\x00\x00\x00\x00\x00\x01", 47},
		{55, "a|", 55},
		{55, "a\x01", 55},
		{55, "a\x7f", 55},
	} {
		wantFault(t, spoilt(frame, c.at, []byte(c.with)...), api.ErrField, c.want)
	}
	wantFault(t, spoilt(frameOf(t, least()[api.TestRequest-1]), 55, 0), api.ErrField, 55)
}

// A number of 8 bytes above 2^63 - 1 is told when msg.Valid would come to it.
func TestB2GreatNumbers(t *testing.T) {
	m := beat()
	m.Dup, m.OrigTime = true, 1
	frame := frameOf(t, m)
	great := []string{"\x80\x00\x00\x00\x00\x00\x00\x00", "\x80\x00\x00\x00\x00\x00\x00\x01", "\xff\xff\xff\xff\xff\xff\xff\xff", "\x80\x00\x00\xe6\x77\xd2\x1f\xdb"}
	for _, n := range great {
		time, orig := spoilt(frame, 39, []byte(n)...), spoilt(frame, 47, []byte(n)...)
		wantFault(t, time, api.ErrField, 39)
		wantFault(t, orig, api.ErrField, 47)
		wantFault(t, spoilt(time, 47, []byte(n)...), api.ErrField, 39)
		for _, b := range [][]byte{time, orig} {
			wantFault(t, spoilt(b, 38, 2), api.ErrValue, 38)
			wantFault(t, spoilt(b, 55, 0, 't'), api.ErrPad, 56)
			wantFault(t, spoilt(b, 81, 1), api.ErrPad, 81)
			wantFault(t, spoilt(b, 10, 'a'), api.ErrField, 10)
			wantFault(t, spoilt(b, 34, 0, 0, 0, 0), api.ErrField, 34)
		}
		wantFault(t, spoilt(time, 55, '|'), api.ErrField, 39)
		wantFault(t, spoilt(orig, 55, '|'), api.ErrField, 47)
		wantFault(t, spoilt(orig, 38, 0), api.ErrField, 47)
		wantFault(t, spoilt(orig, 39, 1), api.ErrField, 39)
	}
	m.Time, m.OrigTime = api.MaxTime, api.MaxTime
	wantMsg(t, spoilt(spoilt(frame, 39, []byte("\x00\x00\xe6\x77\xd2\x1f\xdb\xff")...), 47, []byte("\x00\x00\xe6\x77\xd2\x1f\xdb\xff")...), m)
}

// What does not fit together, with the field at whose place it is told.
func TestB2WhatDoesNotFit(t *testing.T) {
	with := func(kind, number int, n uint32) []byte {
		b := frameOf(t, most()[kind-1])
		s := plans()[kind].spot(number)
		return spoilt(b, s.at, binary.BigEndian.AppendUint32(nil, n)[4-s.size:]...)
	}
	for _, c := range []struct {
		kind, number int
		n            uint32
		told         int
	}{
		{api.ResendRequest, 16, 1, 16},
		{api.NewOrder, 44, 0, 44},
		{api.NewOrder, 40, api.Stop, 44},
		{api.NewOrder, 40, api.Limit, 99},
		{api.NewOrder, 99, 0, 99},
		{api.NewOrder, 38, api.MaxQty - 1, 111},
		{api.NewOrder, 432, 0, 432},
		{api.NewOrder, 432, 20230229, 432},
		{api.NewOrder, 59, api.GTC, 432},
		{api.Execution, 150, 4, 31},
		{api.Execution, 31, 0, 31},
		{api.Execution, 32, 0, 32},
		{api.Execution, 14, api.MaxQty, 14},
		{api.Execution, 151, 2, 14},
		{api.Logout, 43, 0, 122},
	} {
		wantFault(t, with(c.kind, c.number, c.n), api.ErrField, plans()[c.kind].spot(c.told).at)
	}
	m := most()[api.NewOrder-1]
	m.Show = 0
	b := frameOf(t, m)
	wantFault(t, spoilt(b, plans()[m.Kind].spot(38).at, 0, 0, 0, 1), api.ErrField, plans()[m.Kind].spot(110).at)
}

// At all places of all kinds, numbers at the edges of what a byte is and of what may stand there.
func TestB2EachPlace(t *testing.T) {
	t.Parallel()
	edges := []uint64{0, 1, 2, 3, 4, 5, 6, 7, 8, 9, 16, 17, 18, 127, 128, 254, 255, 256, 999, 1000, 3600, 3601, 9999, 10000, 65535,
		api.MaxQty - 1, api.MaxQty, api.MaxQty + 1, 19691231, 19700101, 19700229, 20240229, 99991231, 99991232,
		api.MaxSeq, api.MaxSeq + 1, api.MaxPrice + 1, 1<<31 - 1, 1 << 31, 1<<32 - 1,
		api.MaxTime, api.MaxTime + 1, 1<<63 - 1, 1 << 63, 1<<64 - 1}
	forEach(t, append(least(), most()...), func(t *testing.T, m api.Msg) {
		frame := frameOf(t, m)
		for _, s := range plans()[m.Kind].spots {
			for _, n := range edges {
				number := binary.BigEndian.AppendUint64(nil, n)
				holdAgainstChapter(t, spoilt(frame, s.at, number[8-min(8, s.size):]...))
			}
		}
	})
}

// At all places of all kinds, every byte.
func TestB2EachByte(t *testing.T) {
	t.Parallel()
	forEach(t, most(), func(t *testing.T, m api.Msg) {
		frame := frameOf(t, m)
		for at := 10; at < len(frame); at++ {
			for c := range 256 {
				holdAgainstChapter(t, spoilt(frame, at, byte(c)))
			}
		}
	})
}

// Of two faults the one that the chapter names first is told.
func TestB2FirstFault(t *testing.T) {
	m := most()[api.SequenceReset-1]
	m.Target, m.Text = "B", "t"
	frame := frameOf(t, m)
	spot := plans()[m.Kind].spot
	faults := []struct {
		spoil  func(b []byte)
		sealed bool
		e      api.Errno
		at     int
	}{
		{func(b []byte) { b[0] = 0 }, true, api.ErrFrame, 0},
		{func(b []byte) { b[1] = 0 }, true, api.ErrFrame, 1},
		{func(b []byte) { b[4] = 99 }, true, api.ErrTemplate, 4},
		{func(b []byte) { b[5] = 0 }, true, api.ErrTemplate, 5},
		{func(b []byte) { b[3]++ }, true, api.ErrLength, 2},
		{func(b []byte) { b[4] = api.Heartbeat }, true, api.ErrBlock, 2},
		{func(b []byte) { b[9]++ }, false, api.ErrSum, 6},
		{func(b []byte) { b[33] = 1 }, true, api.ErrPad, 33},
		{func(b []byte) { b[38] = 2 }, true, api.ErrValue, 38},
		{func(b []byte) { b[spot(123).at] = 2 }, true, api.ErrValue, spot(123).at},
		{func(b []byte) { b[spot(58).at+59] = 1 }, true, api.ErrPad, spot(58).at + 59},
		{func(b []byte) { b[len(b)-1] = 1 }, true, api.ErrPad, len(frame) - 1},
		{func(b []byte) { b[10] = 'a' }, true, api.ErrField, 10},
		{func(b []byte) { b[22] = 'b' }, true, api.ErrField, 22},
		{func(b []byte) { b[34] = 255 }, true, api.ErrField, 34},
		{func(b []byte) { b[39] = 255 }, true, api.ErrField, 39},
		{func(b []byte) { b[47] = 255 }, true, api.ErrField, 47},
		{func(b []byte) { b[spot(36).at] = 255 }, true, api.ErrField, spot(36).at},
		{func(b []byte) { b[spot(58).at] = 127 }, true, api.ErrField, spot(58).at},
		{func(b []byte) { b[38] = 0 }, true, api.ErrField, 47},
	}
	for i, first := range faults {
		for j := len(faults) - 1; j >= i; j-- {
			b := bytes.Clone(frame)
			faults[j].spoil(b)
			first.spoil(b)
			seal(b)
			if !first.sealed || !faults[j].sealed {
				b[9]++
			}
			wantFault(t, b, first.e, first.at)
		}
	}
}

func TestB3Size(t *testing.T) {
	for i, want := range []int{0, 82, 82, 66, 130, 122, 122, 58, 122, 106, 122, 98, 90, 226, 162, 154, 122, 130, 0} {
		if got := Size(i); got != want {
			t.Errorf("Size(%d) = %d, want %d", i, got, want)
		}
	}
	for _, kind := range []int{-1, -17, 35, 255, 256, 257, 65537, 1<<32 + 1, math.MaxInt32, math.MinInt32, math.MaxInt, math.MinInt} {
		if got := Size(kind); got != 0 {
			t.Errorf("Size(%d) = %d, want 0", kind, got)
		}
	}
	for _, list := range [][]api.Msg{least(), most()} {
		for _, m := range list {
			if b, _ := Encode(m); len(b) != Size(m.Kind) {
				t.Errorf("a frame of kind %d has %d bytes, not %d", m.Kind, len(b), Size(m.Kind))
			}
		}
	}
}

func TestFollowsAnyMessage(t *testing.T) {
	t.Parallel()
	r := rand.New(rand.NewSource(6))
	for range 20000 {
		m := anyMsg(r, 0)
		wantMsg(t, chapterFrame(m), m)
	}
}

// What Decode takes, Encode writes as the same bytes: of frames in which a few bytes are others, and the sum is right.
func TestFollowsSpoiltFrames(t *testing.T) {
	t.Parallel()
	r := rand.New(rand.NewSource(66))
	taken := 0
	for range 40000 {
		b := chapterFrame(anyMsg(r, 0))
		for range 1 + r.Intn(3) {
			at := r.Intn(len(b))
			b[at] = []byte{0, 1, b[at] + 1, b[at] ^ 0x80, 'A', byte(r.Intn(256))}[r.Intn(6)]
		}
		if r.Intn(10) == 0 {
			b = b[:10+r.Intn(len(b)-10)]
			binary.BigEndian.PutUint16(b[2:], uint16(len(b)))
		}
		holdAgainstChapter(t, seal(b))
		if m, err := Decode(b); err == nil {
			taken++
			if again, e := Encode(m); e != api.OK || !bytes.Equal(again, b) {
				t.Errorf("%x is read as %+v, which is written as %x", b, m, again)
			}
		}
	}
	if taken < 1000 {
		t.Errorf("only %d frames were taken", taken)
	}
}

// No two messages have one frame.
func TestFollowsNoTwoHaveOneFrame(t *testing.T) {
	t.Parallel()
	r := rand.New(rand.NewSource(666))
	whose := map[string]api.Msg{}
	for range 20000 {
		m := anyMsg(r, 0)
		b, e := Encode(m)
		if e != api.OK {
			t.Fatalf("Encode(%+v): %d", m, e)
		}
		if other, ok := whose[string(b)]; ok && other != m {
			t.Errorf("%+v and %+v have one frame", m, other)
		}
		whose[string(b)] = m
	}
}

// P6: a frame with one byte changed is never read.
func TestP6OneByteChanged(t *testing.T) {
	t.Parallel()
	forEach(t, least(), func(t *testing.T, m api.Msg) {
		frame := frameOf(t, m)
		for at := range frame {
			for c := 1; c < 256; c++ {
				b := bytes.Clone(frame)
				b[at] ^= byte(c)
				if got, err := Decode(b); err == nil {
					t.Errorf("%x, changed at %d, is read as %+v", b, at, got)
				}
			}
		}
	})
}

func TestP1AnyBytes(t *testing.T) {
	t.Parallel()
	r := rand.New(rand.NewSource(1))
	for range 30000 {
		b := make([]byte, r.Intn(260))
		r.Read(b)
		if r.Intn(4) > 0 {
			copy(b, "OC")
		}
		if len(b) >= 10 && r.Intn(2) == 0 {
			kind := r.Intn(19)
			b[4], b[5] = byte(kind), 1
			if kind := int(b[4]); kind < 18 && r.Intn(3) > 0 {
				b = append(b, make([]byte, 260)...)[:max(10, plans()[kind].size)]
			}
			binary.BigEndian.PutUint16(b[2:], uint16(len(b)))
			seal(b)
		}
		holdAgainstChapter(t, b)
	}
}

func TestP1AnyMessage(t *testing.T) {
	t.Parallel()
	r := rand.New(rand.NewSource(11))
	for range 20000 {
		m := anyMsg(r, 0)
		other := anyMsg(r, 0)
		m.Kind = []int{m.Kind, other.Kind, r.Intn(40) - 20}[r.Intn(3)]
		m.Seq, m.Text, m.Price = []int{m.Seq, -1, math.MaxInt}[r.Intn(3)], []string{m.Text, other.Text, letters(61), "\x00"}[r.Intn(4)], []int64{m.Price, other.Price, math.MinInt64}[r.Intn(3)]
		want, _ := msg.Valid(m)
		b, e := Encode(m)
		if e != want || e != api.OK && len(b) != 0 || e == api.OK && !bytes.Equal(b, chapterFrame(m)) {
			t.Errorf("Encode(%+v) = %x, %d; want %d", m, b, e, want)
		}
	}
}

// P3: nothing that is handed in is written into, nor what stands behind it.
func TestP3NothingIsWrittenInto(t *testing.T) {
	for _, m := range most() {
		frame := frameOf(t, m)
		for _, end := range []int{0, 1, 9, 10, 11, len(frame) - 1, len(frame)} {
			for _, at := range []int{0, 4, 6, 33, 38, len(frame) - 1} {
				room := append(bytes.Clone(frame), bytes.Repeat([]byte{0xee}, 300)...)
				room[at] ^= 1
				was := bytes.Clone(room)
				Decode(room[:end])
				if !bytes.Equal(room, was) {
					t.Errorf("Decode has written into its frame: %x, %x", was, room)
				}
			}
		}
		room := append(bytes.Clone(frame), bytes.Repeat([]byte{0xee}, 300)...)
		if got, err := Decode(room[:len(frame)]); err != nil || got != m {
			t.Errorf("Decode(%x) = %+v, %v", frame, got, err)
		}
		if !bytes.Equal(room[:len(frame)], frame) || bytes.Count(room[len(frame):], []byte{0xee}) != 300 {
			t.Errorf("Decode has written into its frame: %x", room)
		}
	}
}

// P3: an answer is new memory.
func TestP3AnswersAreNew(t *testing.T) {
	for _, m := range most() {
		one, _ := Encode(m)
		two, _ := Encode(m)
		was := bytes.Clone(one)
		got, err := Decode(one)
		for i := range one[:cap(one)] {
			one[:cap(one)][i] = 7
		}
		if !bytes.Equal(two, was) {
			t.Errorf("two frames of kind %d share memory", m.Kind)
		}
		if err != nil || got != m {
			t.Errorf("the message has changed with its frame: %+v, %v", got, err)
		}
		wantMsg(t, was, m)
	}
	for _, b := range [][]byte{nil, []byte("OC"), []byte("OC\x00\x0a\x00\x01\x00\x00\x00\x00"), spoilt(chapterFrame(beat()), 38, 2), spoilt(chapterFrame(beat()), 10, 'a')} {
		_, one := Decode(b)
		_, two := Decode(b)
		if one.(*api.Fault) == two.(*api.Fault) {
			t.Errorf("two faults of %x are one", b)
		}
		one.(*api.Fault).At = 99
		if _, three := Decode(b); three.(*api.Fault).At == 99 {
			t.Errorf("a fault of %x is kept", b)
		}
	}
}
