package framer

import (
	"bytes"
	"errors"
	"fmt"
	"math"
	"math/rand"
	"slices"
	"strings"
	"testing"

	"outcry/api"
	"outcry/bin"
	"outcry/fields"
	"outcry/fix"
	"outcry/msg"
)

const (
	good  = "8=FIX.4.4\x019=10\x0135=0\x0134=1\x0110=165\x01"
	short = "8=FIX.4.4\x019=0\x0110=200\x01"

	// Frames in fixed places, which bin refuses: a Heartbeat of noughts, a Logon of ff.
	beat = "OC\x00\x52\x01\x01\x83\xeb\x4f\x49"
	logs = "OC\x00\x3a\x07\x01\x9d\xb5\x15\x25"
)

func beatFrame() string { return beat + noughts(72) }

func logonFrame() string { return logs + strings.Repeat("\xff", 48) }

func noughts(n int) string { return strings.Repeat("\x00", n) }

// textFrame makes a frame of a body, whatever it is.
func textFrame(body string) string {
	s := fmt.Sprintf("8=FIX.4.4\x019=%d\x01%s", len(body), body)
	return s + textLast([]byte(s))
}

// binaryFrame makes a frame of a kind and a block, whatever that is.
func binaryFrame(kind byte, fill func(block []byte)) string {
	b := append([]byte{'O', 'C', 0, byte(sizes[kind]), kind, 1}, make([]byte, sizes[kind]-6)...)
	fill(b[10:])
	return string(seal(b))
}

// spoilt gives a text with another byte at a place.
func spoilt(s string, at int, with byte) string { return s[:at] + string([]byte{with}) + s[at+1:] }

// found is an answer of frames that stand one behind the other, each behind so much junk.
func found(waits, junk int, list ...any) answer {
	a := answer{waits: waits, junk: junk}
	for i := 0; i < len(list); i += 2 {
		a.frames = append(a.frames, api.Frame{Bytes: []byte(list[i].(string)), Junk: list[i+1].(int)})
	}
	return a
}

// least gives of each kind a message with nothing in it that need not be there.
func least() []api.Msg {
	all := []api.Msg{
		{Kind: api.Heartbeat},
		{Kind: api.TestRequest, TestID: "x"},
		{Kind: api.ResendRequest, Begin: 1},
		{Kind: api.Reject, RefSeq: 1},
		{Kind: api.SequenceReset, Next: 1},
		{Kind: api.Logout},
		{Kind: api.Logon, Beat: 1},
		{Kind: api.NewOrder, ID: "o", Account: "A", Symbol: "X", Side: api.Buy, Type: api.Market, Life: api.Day, Qty: 1},
		{Kind: api.CancelOrder, ID: "p", OrigID: "o", Symbol: "X", Side: api.Buy},
		{Kind: api.ReplaceOrder, ID: "p", OrigID: "o", Symbol: "X", Side: api.Buy, Qty: 1},
		{Kind: api.MassCancel, ID: "p"},
		{Kind: api.AskStatus, ID: "p", Symbol: "X", Side: api.Buy},
		{Kind: api.Execution, ID: "o", Account: "A", Symbol: "X", Side: api.Buy, Qty: 1, ExecID: 1, Exec: 1, State: 1},
		{Kind: api.CancelReject, ID: "p", OrigID: "o", State: 1},
		{Kind: api.MassReport, ID: "p"},
		{Kind: api.Refused, RefSeq: 1, RefKind: 1},
		{Kind: api.Status, Symbol: "X"},
	}
	for i := range all {
		all[i].Sender, all[i].Target, all[i].Seq = "A", "B", 1
	}
	return all
}

// most gives of each kind a message with all fields as long as they may be.
func most() []api.Msg {
	letters := func(n int) string { return strings.Repeat("Z", n) }
	text, id, name, symbol := letters(60), letters(20), letters(12), letters(8)
	all := []api.Msg{
		{Kind: api.Heartbeat, TestID: id},
		{Kind: api.TestRequest, TestID: id},
		{Kind: api.ResendRequest, Begin: api.MaxSeq, End: api.MaxSeq},
		{Kind: api.Reject, RefSeq: api.MaxSeq, RefKind: 17, RefTag: 9999, Reason: 999, Text: text},
		{Kind: api.SequenceReset, Next: api.MaxSeq, Fill: true, Text: text},
		{Kind: api.Logout, Text: text},
		{Kind: api.Logon, Beat: 3600, Reset: true},
		{Kind: api.NewOrder, ID: id, Account: name, Symbol: symbol, Side: api.Sell, Type: api.StopLimit, Life: api.GTD, Price: api.MaxPrice, Stop: api.MaxPrice, Qty: api.MaxQty, Show: api.MaxQty, Least: api.MaxQty, Until: 99991231},
		{Kind: api.CancelOrder, ID: id, OrigID: id, Symbol: symbol, Side: api.Sell},
		{Kind: api.ReplaceOrder, ID: id, OrigID: id, Symbol: symbol, Side: api.Sell, Price: api.MaxPrice, Stop: api.MaxPrice, Qty: api.MaxQty},
		{Kind: api.MassCancel, ID: id, Account: name, Symbol: symbol, Side: api.Sell},
		{Kind: api.AskStatus, ID: id, Symbol: symbol, Side: api.Sell},
		{Kind: api.Execution, Reason: 999, Text: text, ID: id, OrigID: id, Account: name, Symbol: symbol, Side: api.Sell, Type: api.StopLimit, Life: api.PostOnly, Price: api.MaxPrice, Stop: api.MaxPrice, Qty: api.MaxQty, Show: api.MaxQty, OrderID: api.MaxSeq, ExecID: api.MaxSeq, Exec: 3, State: 6, LastPrice: api.MaxPrice, LastQty: api.MaxQty, Left: 1, Done: api.MaxQty - 1},
		{Kind: api.CancelReject, Reason: 999, Text: text, ID: id, OrigID: id, OrderID: api.MaxSeq, State: 6},
		{Kind: api.MassReport, Reason: 999, Text: text, ID: id, Symbol: symbol, Count: api.MaxSeq},
		{Kind: api.Refused, RefSeq: api.MaxSeq, RefKind: 17, Reason: 999, Text: text},
		{Kind: api.Status, Text: text, Symbol: symbol, Phase: api.Closing},
	}
	for i := range all {
		m := &all[i]
		m.Sender, m.Target, m.Seq, m.Dup, m.Time, m.OrigTime = name, name, api.MaxSeq, true, api.MaxTime, api.MaxTime
	}
	return all
}

func messages() []api.Msg { return append(least(), most()...) }

// protocol: how messages are written and read, and the kind of framer that finds them.
type protocol struct {
	name   string
	kind   int
	encode func(api.Msg) ([]byte, api.Errno)
	decode func([]byte) (api.Msg, error)
}

func protocols() []protocol {
	return []protocol{{"Text", Text, fix.Encode, fix.Decode}, {"Binary", Binary, bin.Encode, bin.Decode}}
}

func (p protocol) write(t *testing.T, m api.Msg) []byte {
	t.Helper()
	b, e := p.encode(m)
	if e != api.OK {
		t.Fatalf("%s: the test's own message %+v: %d", p.name, m, e)
	}
	return b
}

func TestR1Kinds(t *testing.T) {
	for _, kind := range []int{Text, Binary} {
		f := newFramer(t, kind)
		if l := f.Feed(nil); len(l) != 0 || f.Waits() != 0 || f.Junk() != 0 {
			t.Errorf("New(%d): %v, %d wait, %d junk", kind, l, f.Waits(), f.Junk())
		}
	}
	for _, kind := range []int{0, 3, -1, -2, 4, 257, 258, 1<<32 + 1, math.MinInt, math.MaxInt} {
		if f, e := New(kind); f != nil || e != api.ErrArg {
			t.Errorf("New(%d) = %v, %d", kind, f, e)
		}
	}
	// A kind finds its own frames alone.
	want(t, Text, beatFrame(), found(0, 82))
	want(t, Binary, good, found(0, 32))
}

func TestR2Examples(t *testing.T) {
	want(t, Text, good+good, found(0, 0, good, 0, good, 0))
	want(t, Text, "xx"+good, found(0, 2, good, 2))
	want(t, Text, good[:31], found(31, 0))
	want(t, Text, "8=FIX.4.4\x019=1024\x01", found(0, 17))
	want(t, Text, "8=FIX.4.4\x019=100", found(15, 0))
	want(t, Text, strings.Replace(good, "165", "166", 1)+good, found(0, 32, good, 32))
	want(t, Text, "8=FIX.4.4\x019=99\x01"+good, found(47, 0))
	want(t, Text, "8=FIX.4.4\x019=99\x01"+good+noughts(67), found(114, 0))
	want(t, Text, "8=FIX.4.4\x019=99\x01"+good+noughts(68), found(0, 83, good, 15))
	want(t, Binary, "O", found(1, 0))
	want(t, Binary, "OC", found(2, 0))
	want(t, Binary, "OD", found(0, 2))
}

func TestR2FramesByteByByte(t *testing.T) {
	for _, s := range []string{
		good,
		short,
		"8=FIX.4.4\x019=1\x01x10=065\x01",
		"8=FIX.4.4\x019=7\x0110=000\x0110=254\x01",
		"8=FIX.4.4\x019=1\x01\x0010=201\x01",
		"8=FIX.4.4\x019=3\x01\xff\xff\xff10=200\x01",
		"8=FIX.4.4\x019=9\x01aaaaaaaaa10=058\x01",
		"8=FIX.4.4\x019=10\x01aaaaaaaaaa10=195\x01",
		"8=FIX.4.4\x019=999\x01" + strings.Repeat("8", 999) + "10=203\x01",
		"8=FIX.4.4\x019=1000\x01" + strings.Repeat("z", 1000) + "10=233\x01",
	} {
		want(t, Text, s, found(0, 0, s, 0))
		want(t, Text, s[:len(s)-1], found(len(s)-1, 0))
		want(t, Text, s+good, found(0, 0, s, 0, good, 0))
	}
	for _, s := range []string{beatFrame(), logonFrame()} {
		want(t, Binary, s, found(0, 0, s, 0))
		want(t, Binary, s[:len(s)-1], found(len(s)-1, 0))
		want(t, Binary, s+beatFrame(), found(0, 0, s, 0, beatFrame(), 0))
	}
	for kind, size := range sizes {
		if s := binaryFrame(kind, func([]byte) {}); len(s) != size {
			t.Errorf("the test's own frame of kind %d has %d bytes", kind, len(s))
		} else {
			want(t, Binary, s, found(0, 0, s, 0))
		}
	}
}

// A byte that is wrong is so at once, not when more has come.
func TestR2TextWrongAtOnce(t *testing.T) {
	t.Parallel()
	for at := range 12 {
		for c := range 256 {
			s := good[:at] + string([]byte{byte(c)})
			a := found(at+1, 0)
			switch {
			case byte(c) == good[at]:
			case byte(c) == '8':
				a = found(1, at) // another one may begin here
			default:
				a = found(0, at+1)
			}
			want(t, Text, s, a)
		}
	}
	for at := 25; at < 32; at++ {
		for c := range 256 {
			a := found(at+1, 0)
			switch {
			case byte(c) == good[at] && at == 31:
				a = found(0, 0, good, 0)
			case byte(c) == good[at]:
			case byte(c) == '8':
				a = found(1, at)
			default:
				a = found(0, at+1)
			}
			want(t, Text, good[:at]+string([]byte{byte(c)}), a)
		}
	}
}

func TestR2TextLengths(t *testing.T) {
	t.Parallel()
	for length := range 10000 {
		s := fmt.Sprintf("8=FIX.4.4\x019=%d", length)
		a := found(len(s), 0)
		if length > 1000 {
			a = found(0, len(s))
			if length%10 == 8 {
				a = found(1, len(s)-1)
			}
		}
		if got := feed(t, Text, []byte(s)); !sameAnswer(got, a) {
			t.Errorf("%q: %v; want %v", s, got, a)
		}
		if length > 1000 {
			continue
		}
		frame := textFrame(strings.Repeat("=", length))
		for _, cuts := range [][]int{nil, every(1, len(frame)), {len(frame) - 7}} {
			if got := feed(t, Text, []byte(frame+short), cuts...); !sameAnswer(got, found(0, 0, frame, 0, short, 0)) {
				t.Errorf("%q, cut at %v: %v", frame, cuts, got)
			}
		}
	}
	for _, digits := range []string{"\x01", "x", "-1", "+1", " 1", "1 ", "1x", "00", "01", "07", "0x", "0 ", "10000", "2000", "99999", "1001", "5=", "1.", "\xb2", "10/", "10:"} {
		s := "8=FIX.4.4\x019=" + digits
		want(t, Text, s, found(0, len(s)))
		want(t, Text, s+"\x01", found(0, len(s)+1))
		want(t, Text, s+short, found(0, len(s), short, len(s)))
	}
}

func TestR2TextSums(t *testing.T) {
	t.Parallel()
	seen := map[string]int{}
	for c := range 256 {
		frame := textFrame(string([]byte{byte(c)}))
		right := frame[len(frame)-4 : len(frame)-1]
		seen[right]++
		want(t, Text, frame, found(0, 0, frame, 0))
		for n := range 1000 {
			digits := fmt.Sprintf("%03d", n)
			s := frame[:len(frame)-4] + digits + "\x01"
			a := found(0, len(s))
			if digits == right {
				a = found(0, 0, s, 0)
			}
			if got := feed(t, Text, []byte(s)); !sameAnswer(got, a) {
				t.Fatalf("%q: %v; want %v", s, got, a)
			}
		}
	}
	if len(seen) != 256 {
		t.Errorf("the test's own frames have %d sums", len(seen))
	}
	// The sum is written in one way alone: `065`.
	x := "8=FIX.4.4\x019=1\x01x10="
	for _, last := range []string{"65\x01", "65\x01\x01", "0065\x01", " 65\x01", "+65\x01", "321\x01", "065", "0650"} {
		a := chapterSays(Text, []byte(x+last))
		if len(a.frames) > 0 {
			t.Errorf("the test's own reading takes %q", last)
		}
		want(t, Text, x+last, a)
	}
	// What is summed up are all bytes ahead of the last field, and no others.
	for _, ahead := range []string{"x", good, "8"} {
		want(t, Text, ahead+good+ahead, chapterSays(Text, []byte(ahead+good+ahead)))
	}
}

func TestR2BinaryWrongAtOnce(t *testing.T) {
	t.Parallel()
	for kind := range sizes {
		frame := binaryFrame(kind, func([]byte) {})
		for _, at := range []int{0, 1, 4, 5} {
			for c := range 256 {
				s := frame[:at] + string([]byte{byte(c)})
				a := found(at+1, 0)
				switch {
				case byte(c) == frame[at]:
				case at == 4 && sizes[byte(c)] == len(frame): // another kind with frames as long
				case byte(c) == 'O':
					a = found(1, at)
				default:
					a = found(0, at+1)
				}
				if got := feed(t, Binary, []byte(s)); !sameAnswer(got, a) {
					t.Errorf("%q: %v; want %v", s, got, a)
				}
			}
		}
	}
}

// The length is wrong when the kind is there, and not ahead of it.
func TestR2BinaryLengths(t *testing.T) {
	for _, kind := range []byte{1, 13, 18} {
		t.Run(fmt.Sprint(kind), func(t *testing.T) {
			t.Parallel()
			for length := range 1 << 16 {
				s := []byte{'O', 'C', byte(length >> 8), byte(length), kind}
				if got := feed(t, Binary, s[:4]); !sameAnswer(got, found(4, 0)) {
					t.Fatalf("%q: %v", s[:4], got)
				}
				a := found(5, 0)
				if length == 0 || length != sizes[kind] {
					a = chapterSays(Binary, s)
				}
				if got := feed(t, Binary, s); !sameAnswer(got, a) {
					t.Fatalf("%q: %v; want %v", s, got, a)
				}
			}
		})
	}
	want(t, Binary, "OC\x00\x00\x00", found(0, 5))
	want(t, Binary, "OC\x00\x00\x12", found(0, 5))
	want(t, Binary, "OC\x00\x51\x01", found(0, 5))
	want(t, Binary, "OC\x01\x52\x01", found(0, 5))
	want(t, Binary, "OC\x52\x00\x01", found(0, 5))
	want(t, Binary, "OCOCO", found(3, 2))
	want(t, Binary, "OC\x00OC", found(2, 3))
}

// Whatever stands in the block and in the sum, nothing is wrong ahead of the last byte.
func TestR2BinarySums(t *testing.T) {
	t.Parallel()
	for _, frame := range []string{beatFrame(), logonFrame()} {
		for at := range len(frame) {
			for bit := range 8 {
				s := spoilt(frame, at, frame[at]^1<<bit)
				if at >= 6 && at < len(s)-1 {
					if got := feed(t, Binary, []byte(s[:len(s)-1])); !sameAnswer(got, found(len(s)-1, 0)) {
						t.Errorf("%q: %v", s[:len(s)-1], got)
					}
				}
				all := s + noughts(api.MaxFrame) + frame
				junk := len(all) - len(frame)
				if got := feed(t, Binary, []byte(all)); !sameAnswer(got, found(0, junk, frame, junk)) {
					t.Errorf("%q: %v", all, got)
				}
			}
		}
	}
}

// What is no beginning is looked through anew from its second byte on.
func TestR2GoesOnBehindOneByte(t *testing.T) {
	for _, ahead := range []string{"8", "8=", "8=8=", "8=FIX.4.", "8=FIX.4.4", "8=FIX.4.4\x01", "8=FIX.4.4\x019=", "8=FIX.4.4\x019=1", "8=FIX.4.4\x019=1000", "88888", "8=FIX.8=FIX.4.4\x01", good[1:], good[:31]} {
		want(t, Text, ahead+good, found(0, len(ahead), good, len(ahead)))
	}
	for _, ahead := range []string{"O", "OO", "OC", "OOC", "OCO", "OC\x00", "OC\x00\x52", "OCOC", "COC", beatFrame()[1:]} {
		want(t, Binary, ahead+beatFrame(), found(0, len(ahead), beatFrame(), len(ahead)))
	}
	// The byte that was wrong may begin a frame itself.
	want(t, Text, "8=FIX.4.4\x0188=FIX.4.4\x019=0\x0110=200\x01", found(0, 11, short, 11))
	// A frame that stands in another's body is that one's; if the other turns out to be none, it is found.
	outer := textFrame("ab" + good + "c")
	want(t, Text, outer, found(0, 0, outer, 0))
	broken := spoilt(outer, len(outer)-2, 'x')
	want(t, Text, broken, found(0, len(outer)-32, good, 17))
	inner := binaryFrame(13, func(b []byte) { copy(b[20:], beatFrame()) })
	want(t, Binary, inner, found(0, 0, inner, 0))
	want(t, Binary, spoilt(inner, 6, inner[6]^1), found(0, 226-82, beatFrame(), 30))
	// Of several beginnings within one another, the first that becomes a frame.
	begins := "8=FIX.4.4\x019=200\x01" + "8=FIX.4.4\x019=150\x01" + textFrame(good)
	want(t, Text, begins+noughts(300), found(0, 332, textFrame(good), 32))
}

func TestR3BodiesAreNotLookedInto(t *testing.T) {
	for _, body := range []string{"", "x", "\x00", "\x01\x01", "35=0", "8=FIX.4.4\x01", "10=000\x01", "\xff\xfe|", "0=\x01"} {
		s := textFrame(body)
		if _, err := fields.Split([]byte(s)); err == nil && body != "" {
			t.Errorf("the test's own frame of %q is taken by fields", body)
		}
		want(t, Text, s, found(0, 0, s, 0))
	}
	for kind := range sizes {
		s := binaryFrame(kind, func(b []byte) { copy(b, strings.Repeat("\xee", len(b))) })
		if _, err := bin.Decode([]byte(s)); err == nil || errors.Is(err, api.ErrSum) {
			t.Errorf("the test's own frame of kind %d: %v", kind, err)
		}
		want(t, Binary, s, found(0, 0, s, 0))
	}
}

// A frame tells the junk since the frame ahead of it, however many calls have come between.
func TestR3JunkAhead(t *testing.T) {
	want(t, Text, "a"+good+good+"bcd"+short+"8=x"+good+"8", found(1, 7, good, 1, good, 0, short, 3, good, 3))
	want(t, Binary, "a"+beatFrame()+beatFrame()+"bcd"+logonFrame()+"OCx"+noughts(9)+beatFrame()+"O", found(1, 16, beatFrame(), 1, beatFrame(), 0, logonFrame(), 3, beatFrame(), 12))
	f := newFramer(t, Text)
	for i, step := range []struct {
		bytes             string
		frames, ahead     int
		waitsNow, junkNow int
	}{
		{"ab", 0, 0, 0, 2},
		{"", 0, 0, 0, 2},
		{"c8=", 0, 0, 2, 3},
		{"8=FIX", 0, 0, 5, 5},
		{good[5:], 1, 5, 0, 5},
		{good, 1, 0, 0, 5},
		{"x", 0, 0, 0, 6},
		{good + "yy", 1, 1, 0, 8},
		{"8", 0, 0, 1, 8},
		{good, 1, 3, 0, 9},
	} {
		l := f.Feed([]byte(step.bytes))
		if len(l) != step.frames || len(l) == 1 && l[0].Junk != step.ahead || f.Waits() != step.waitsNow || f.Junk() != step.junkNow {
			t.Errorf("step %d, %q: %v, %d wait, %d junk", i, step.bytes, l, f.Waits(), f.Junk())
		}
	}
}

// textPieces gives pieces of streams that come near to being frames.
func textPieces(r *rand.Rand) string {
	body := make([]byte, r.Intn(1+r.Intn(60)))
	r.Read(body)
	frame := textFrame(string(body))
	switch r.Intn(14) {
	case 0:
		return good
	case 1:
		return frame
	case 2:
		return frame[:r.Intn(len(frame))]
	case 3:
		return frame[r.Intn(len(frame)):]
	case 4:
		return spoilt(frame, r.Intn(len(frame)), byte(r.Intn(256)))
	case 5:
		return spoilt(frame, r.Intn(len(frame)), "0123456789=\x018F"[r.Intn(14)])
	case 6:
		return fmt.Sprintf("8=FIX.4.4\x019=%d\x01", r.Intn(1+r.Intn(1100)))
	case 7:
		return textFrame(frame + textPieces(r))
	case 8:
		return noughts(r.Intn(80))
	case 9:
		return textLast([]byte(frame))
	case 10:
		return string(body)
	case 11:
		return "8=FIX.4.4\x019="[:r.Intn(13)]
	case 12:
		return "0123456789"[r.Intn(10):]
	}
	return "8"
}

// binaryPieces is textPieces of frames in fixed places.
func binaryPieces(r *rand.Rand) string {
	kind := byte(1 + r.Intn(17))
	frame := binaryFrame(kind, func(b []byte) {
		if r.Intn(2) == 0 {
			r.Read(b)
		}
	})
	switch r.Intn(12) {
	case 0, 1:
		return frame
	case 2:
		return frame[:r.Intn(len(frame))]
	case 3:
		return frame[r.Intn(len(frame)):]
	case 4:
		return spoilt(frame, r.Intn(len(frame)), byte(r.Intn(256)))
	case 5:
		return spoilt(frame, r.Intn(10), "\x00\x01\x52OC\x3a"[r.Intn(6)])
	case 6:
		return frame[:r.Intn(11)]
	case 7:
		return binaryFrame(13, func(b []byte) { copy(b[r.Intn(60):], frame) })
	case 8:
		return noughts(r.Intn(80))
	case 9:
		return spoilt(binaryFrame(13, func(b []byte) { copy(b[r.Intn(60):], frame) }), 6+r.Intn(220), byte(r.Intn(256)))
	case 10:
		return "OCOOC"[:r.Intn(6)]
	}
	return "O"
}

// forBoth tests both kinds, many seeds side by side.
func forBoth(t *testing.T, test func(t *testing.T, r *rand.Rand, kind int, piece func(*rand.Rand) string)) {
	for seed := range 8 {
		t.Run(fmt.Sprint("Text", seed), func(t *testing.T) {
			t.Parallel()
			test(t, rand.New(rand.NewSource(int64(seed))), Text, textPieces)
		})
		t.Run(fmt.Sprint("Binary", seed), func(t *testing.T) {
			t.Parallel()
			test(t, rand.New(rand.NewSource(int64(100+seed))), Binary, binaryPieces)
		})
	}
}

func TestR4StreamsAgainstTheChapter(t *testing.T) {
	forBoth(t, func(t *testing.T, r *rand.Rand, kind int, piece func(*rand.Rand) string) {
		for range 300 {
			var s strings.Builder
			for range 1 + r.Intn(30) {
				s.WriteString(piece(r))
			}
			holdAgainstChapter(t, r, kind, []byte(s.String()))
		}
	})
}

func TestR4EachByteAgainstTheChapter(t *testing.T) {
	forBoth(t, func(t *testing.T, r *rand.Rand, kind int, piece func(*rand.Rand) string) {
		for range 60 {
			var s strings.Builder
			for range 1 + r.Intn(5) {
				s.WriteString(piece(r))
			}
			holdEachByte(t, kind, []byte(s.String()))
		}
	})
}

// All bytes of all frames, each turned into another one.
func TestR4SpoiltFramesAgainstTheChapter(t *testing.T) {
	t.Parallel()
	r := rand.New(rand.NewSource(7))
	for at := range len(good) {
		for c := range 256 {
			holdAgainstChapter(t, r, Text, []byte(spoilt(good, at, byte(c))+good))
		}
	}
	for at := range 12 {
		for c := range 256 {
			holdAgainstChapter(t, r, Binary, []byte(spoilt(beatFrame(), at, byte(c))+beatFrame()))
		}
	}
}

// Cut in three, anywhere.
func TestR4CutInThree(t *testing.T) {
	t.Parallel()
	for kind, stream := range map[int]string{Text: "8=" + short + "x" + good + "8=F", Binary: "OC" + logonFrame() + "x" + beatFrame() + "OC\x00"} {
		b := []byte(stream)
		a := chapterSays(kind, b)
		for i := range b {
			for j := i; j < len(b); j++ {
				if got := feed(t, kind, b, i, j); !sameAnswer(got, a) {
					t.Fatalf("%q, cut at %d and %d: %v; want %v", stream, i, j, got, a)
				}
			}
		}
	}
}

func TestR5MostWaits(t *testing.T) {
	s := textFrame(strings.Repeat("8", 1000))
	if len(s) != api.MaxFrame {
		t.Fatalf("the test's own frame has %d bytes", len(s))
	}
	f := newFramer(t, Text)
	for i := range len(s) - 1 {
		if l := f.Feed([]byte(s[i : i+1])); len(l) > 0 || f.Waits() != i+1 || f.Junk() != 0 {
			t.Fatalf("behind %d bytes: %v, %d wait, %d junk", i+1, l, f.Waits(), f.Junk())
		}
	}
	if l := f.Feed([]byte(s[1023:])); len(l) != 1 || string(l[0].Bytes) != s || f.Waits() != 0 || f.Junk() != 0 {
		t.Errorf("%v, %d wait, %d junk", l, f.Waits(), f.Junk())
	}
	// One byte that is wrong lets all of them go.
	wrong := spoilt(s, 1023, 'x')
	want(t, Text, wrong, found(0, 1024))
	long := binaryFrame(13, func(b []byte) { copy(b, strings.Repeat("O", len(b))) })
	want(t, Binary, long[:225], found(225, 0))
	want(t, Binary, spoilt(long, 225, 'x'), found(0, 226))
	want(t, Binary, spoilt(long, 224, 'x'), found(1, 225))
}

// What Waits and Junk answer is not changed by asking.
func TestR5AskedTwice(t *testing.T) {
	f := newFramer(t, Text)
	f.Feed([]byte("xx" + good + "y8="))
	for range 3 {
		if f.Waits() != 2 || f.Junk() != 3 || len(f.Feed(nil)) != 0 || len(f.Feed([]byte{})) != 0 {
			t.Errorf("%d wait, %d junk", f.Waits(), f.Junk())
		}
	}
}

func TestFollowsFramesBehindOneAnother(t *testing.T) {
	t.Parallel()
	r := rand.New(rand.NewSource(3))
	var stream []byte
	var all answer
	for range 200 {
		var l []api.Field
		for range r.Intn(12) {
			l = append(l, api.Field{Tag: 11 + r.Intn(9000), Value: strings.Repeat(string(rune(32+r.Intn(95))), 1+r.Intn(60))})
		}
		b, e := fields.Join(l)
		if e != api.OK {
			t.Fatalf("Join(%v): %d", l, e)
		}
		stream = append(stream, b...)
		all.frames = append(all.frames, api.Frame{Bytes: b})
	}
	for _, cuts := range [][]int{nil, every(1, len(stream)), every(1024, len(stream)), randomCuts(r, len(stream))} {
		if got := feed(t, Text, stream, cuts...); !sameAnswer(got, all) {
			t.Errorf("cut at %v: %v; want %v", cuts, got, all)
		}
	}
	for _, p := range protocols() {
		var stream []byte
		var all answer
		for _, m := range messages() {
			b := p.write(t, m)
			stream = append(stream, b...)
			all.frames = append(all.frames, api.Frame{Bytes: b})
		}
		for _, cuts := range [][]int{nil, every(1, len(stream)), every(100, len(stream)), randomCuts(r, len(stream))} {
			if got := feed(t, p.kind, stream, cuts...); !sameAnswer(got, all) {
				t.Errorf("%s, cut at %v: %v; want %v", p.name, cuts, got, all)
			}
		}
	}
}

// Behind any bytes, and noughts: a frame is found.
func TestFollowsAFrameBehindAnything(t *testing.T) {
	forBoth(t, func(t *testing.T, r *rand.Rand, kind int, piece func(*rand.Rand) string) {
		frame := map[int]string{Text: good, Binary: beatFrame()}[kind]
		for range 300 {
			stream := []byte(piece(r) + piece(r) + noughts(api.MaxFrame) + frame)
			got := feed(t, kind, stream, randomCuts(r, len(stream))...)
			if n := len(got.frames); n == 0 || string(got.frames[n-1].Bytes) != frame || got.waits != 0 {
				t.Fatalf("%q: %v", stream, got)
			}
		}
	})
}

func TestP1AnyBytes(t *testing.T) {
	t.Parallel()
	r := rand.New(rand.NewSource(1))
	for _, kind := range []int{Text, Binary} {
		for _, letters := range []string{"8=FIX.4\x019=10", "OC\x00\x52\x01\x07\x3a", "8", "O", "\x00\xff"} {
			for range 100 {
				b := make([]byte, r.Intn(200))
				for i := range b {
					b[i] = letters[r.Intn(len(letters))]
				}
				holdAgainstChapter(t, r, kind, b)
			}
		}
	}
}

// Long streams that are made to be looked at again and again come to their end, and little of them is kept.
func TestP1LongStreams(t *testing.T) {
	for _, s := range []struct {
		kind  int
		piece string
		times int
	}{
		{Text, "8=FIX.4.4\x019=1000\x01", 60000},
		{Text, "8=FIX.4.4\x019=3\x0110=", 60000},
		{Text, "8", 1000000},
		{Text, "9", 1000000},
		{Binary, "OC\x00\x52\x01\x01", 30000},
		{Binary, "OC", 500000},
		{Binary, "O", 1000000},
	} {
		t.Run(fmt.Sprintf("%q", s.piece), func(t *testing.T) {
			t.Parallel()
			stream := bytes.Repeat([]byte(s.piece), s.times)
			f := newFramer(t, s.kind)
			l := f.Feed(stream)
			if len(l) > 0 || f.Waits()+f.Junk() != len(stream) || f.Waits() >= api.MaxFrame {
				t.Errorf("%d frames, %d wait, %d junk", len(l), f.Waits(), f.Junk())
			}
			if cap(f.bytes) > 4*api.MaxFrame {
				t.Errorf("room for %d bytes is kept", cap(f.bytes))
			}
		})
	}
}

func TestP3NothingIsSharedOrWritten(t *testing.T) {
	t.Parallel()
	for _, p := range protocols() {
		frame := string(p.write(t, least()[0]))
		stream := "x" + frame + frame + frame + frame[:20]
		for size := 1; size <= len(stream); size++ {
			f := newFramer(t, p.kind)
			var all []api.Frame
			for at := 0; at < len(stream); at += size {
				end := min(at+size, len(stream))
				room := []byte("??" + stream[at:end] + "spare room")
				copied := bytes.Clone(room)
				all = append(all, f.Feed(room[2:2+end-at])...)
				if !bytes.Equal(room, copied) {
					t.Fatalf("Feed has written into %q: %q", copied, room)
				}
				for i := range room {
					room[i] = '8'
				}
			}
			if len(all) != 3 {
				t.Fatalf("%s, %d bytes at a time: %v", p.name, size, all)
			}
			for i := range all {
				if string(all[i].Bytes) != frame {
					t.Errorf("%s, %d bytes at a time: frame %d is %q", p.name, size, i, all[i].Bytes)
				}
				b := all[i].Bytes[:cap(all[i].Bytes)]
				for j := range b {
					b[j] = 'O'
				}
			}
			// What waits is not touched by what was done to the answers.
			if l := f.Feed([]byte(frame[20:])); len(l) != 1 || string(l[0].Bytes) != frame || l[0].Junk != 0 || f.Waits() != 0 || f.Junk() != 1 {
				t.Errorf("%s, %d bytes at a time: %v, %d wait, %d junk", p.name, size, l, f.Waits(), f.Junk())
			}
		}
	}
}

// The list that comes out is the caller's, with its spare room.
func TestP3ListsAreNew(t *testing.T) {
	f := newFramer(t, Text)
	one := f.Feed([]byte(good + good + good))
	one = append(one, api.Frame{Junk: 77})
	two := f.Feed([]byte("x" + short))
	if len(two) != 1 || string(two[0].Bytes) != short || two[0].Junk != 1 {
		t.Errorf("%v", two)
	}
	two[0] = api.Frame{}
	if len(one) != 4 || string(one[0].Bytes) != good || one[3].Junk != 77 {
		t.Errorf("%v", one)
	}
}

func TestP4FramersAreAlone(t *testing.T) {
	r := rand.New(rand.NewSource(4))
	var framers []*Framer
	var kinds []int
	var streams [][]byte
	got := make([]answer, 10)
	for i := range got {
		kind, piece := Text, textPieces
		if i%2 == 1 {
			kind, piece = Binary, binaryPieces
		}
		var s strings.Builder
		for range 20 {
			s.WriteString(piece(r))
		}
		framers, kinds, streams = append(framers, newFramer(t, kind)), append(kinds, kind), append(streams, []byte(s.String()))
	}
	rest := slices.Clone(streams)
	for range 100000 {
		i := r.Intn(len(rest))
		n := min(r.Intn(40), len(rest[i]))
		got[i].frames = append(got[i].frames, framers[i].Feed(rest[i][:n])...)
		rest[i] = rest[i][n:]
	}
	for i := range got {
		got[i].waits, got[i].junk = framers[i].Waits(), framers[i].Junk()
		if a := chapterSays(kinds[i], streams[i]); len(rest[i]) > 0 || !sameAnswer(got[i], a) {
			t.Errorf("%q: %v; want %v", streams[i], got[i], a)
		}
	}
}

// A message that may be is read as it was written, in whatever pieces its bytes come.
func TestP6MessagesInPieces(t *testing.T) {
	for _, p := range protocols() {
		for i, m := range messages() {
			t.Run(fmt.Sprint(p.name, msg.Name(m.Kind), i), func(t *testing.T) {
				t.Parallel()
				b := p.write(t, m)
				for cut := range b {
					readAsWritten(t, p, m, b, cut)
				}
				readAsWritten(t, p, m, b, every(1, len(b))...)
			})
		}
	}
}

func readAsWritten(t *testing.T, p protocol, m api.Msg, b []byte, cuts ...int) {
	t.Helper()
	a := feed(t, p.kind, b, cuts...)
	if len(a.frames) != 1 || a.waits != 0 || a.junk != 0 {
		t.Fatalf("%q, cut at %v: %v", b, cuts, a)
	}
	if got, err := p.decode(a.frames[0].Bytes); err != nil || got != m {
		t.Fatalf("%q, cut at %v: %+v, %v; want %+v", b, cuts, got, err, m)
	}
}

// With one byte changed, nothing of the same length is read; what stands behind it, at some distance, is.
func TestP6SpoiltMessages(t *testing.T) {
	for _, p := range protocols() {
		behind := p.write(t, api.Msg{Kind: api.Heartbeat, Sender: "A", Target: "B", Seq: 1, TestID: "behind"})
		for i, m := range messages() {
			t.Run(fmt.Sprint(p.name, msg.Name(m.Kind), i), func(t *testing.T) {
				t.Parallel()
				b := p.write(t, m)
				for at := range b {
					for _, c := range []byte{b[at] ^ 1, b[at] ^ 0x80, b[at] + 1, b[at] - 1, 1, '0', '8', '=', 'O'} {
						if c == b[at] {
							continue
						}
						s := slices.Concat([]byte(spoilt(string(b), at, c)), make([]byte, api.MaxFrame), behind)
						letBe(t, p, s, len(b), behind)
					}
				}
			})
		}
	}
}

// letBe asks that of a stream no message of a length is read at its beginning, and that its last one is found.
func letBe(t *testing.T, p protocol, stream []byte, length int, last []byte) {
	t.Helper()
	a := feed(t, p.kind, stream)
	n := len(a.frames)
	if n == 0 || !bytes.Equal(a.frames[n-1].Bytes, last) || a.waits != 0 {
		t.Fatalf("%q: %v", stream, a)
	}
	for _, f := range a.frames[:n-1] {
		if m, err := p.decode(f.Bytes); err == nil && f.Junk == 0 && len(f.Bytes) == length {
			t.Fatalf("%q is read as %+v", stream, m)
		}
	}
}
