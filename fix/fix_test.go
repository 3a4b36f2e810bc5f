package fix

import (
	"bytes"
	"errors"
	"maps"
	"math"
	"math/rand"
	"reflect"
	"slices"
	"strconv"
	"strings"
	"testing"

	"outcry/api"
	"outcry/fields"
	"outcry/msg"
)

const (
	stampText = "20240229-12:34:56.789"
	stampTime = 1709210096789

	// head is what the messages of these tests begin with, behind 35.
	head = "|49=A|56=B|34=7|52=" + stampText
	// order is a limit order that is right: its 59 has the place 10, its 44 the place 11; it has 13 fields.
	order = "35=D" + head + "|11=a|1=ACC|55=ABC|54=1|40=2|59=0|44=1|38=10"
)

// fieldsOf reads fields that are written with | between them.
func fieldsOf(t *testing.T, s string) []api.Field {
	t.Helper()
	var l []api.Field
	for _, x := range strings.Split(s, "|") {
		tag, value, _ := strings.Cut(x, "=")
		n, err := strconv.Atoi(tag)
		if err != nil {
			t.Fatal(err)
		}
		l = append(l, api.Field{Tag: n, Value: value})
	}
	return l
}

func frameOf(t *testing.T, l []api.Field) []byte {
	t.Helper()
	b, e := fields.Join(l)
	if e != api.OK {
		t.Fatalf("the test's own frame %v: %d", l, e)
	}
	return b
}

// bodyOf writes the fields of a frame with | between them.
func bodyOf(t *testing.T, frame []byte) string {
	t.Helper()
	l, err := fields.Split(frame)
	if err != nil {
		t.Fatalf("%q is no frame: %v", frame, err)
	}
	var out []string
	for _, f := range l {
		out = append(out, strconv.Itoa(f.Tag)+"="+f.Value)
	}
	return strings.Join(out, "|")
}

// headed gives a message that begins as head says.
func headed(m api.Msg) api.Msg {
	m.Sender, m.Target, m.Seq, m.Time = "A", "B", 7, stampTime
	return m
}

func wantMsg(t *testing.T, frame []byte, want api.Msg) {
	t.Helper()
	if m, err := Decode(frame); err != nil || m != want {
		t.Errorf("Decode(%q) = %+v, %v; want %+v", frame, m, err, want)
	}
	if reason, tag, m := Why(frame); reason != 0 || tag != 0 || m != want {
		t.Errorf("Why(%q) = %d, %d, %+v; want 0, 0, %+v", frame, reason, tag, m, want)
	}
}

// wantFault asks for a fault, and for what Why tells of it, whatever it reads of the message.
func wantFault(t *testing.T, frame []byte, want api.Fault, reason int, tag int) {
	t.Helper()
	m, err := Decode(frame)
	f, ok := err.(*api.Fault)
	if !ok || f == nil || *f != want || m != (api.Msg{}) || !errors.Is(err, want.Err) {
		t.Errorf("Decode(%q) = %+v, %v; want %v", frame, m, err, &want)
	}
	if gotReason, gotTag, _ := Why(frame); gotReason != reason || gotTag != tag {
		t.Errorf("Why(%q) = %d, %d; want %d, %d", frame, gotReason, gotTag, reason, tag)
	}
}

func letters(n int) string { return strings.Repeat("Z", n) }

// written: messages of each kind, and how they are written.
func written() map[string]api.Msg {
	const late = "|49=ZZZZZZZZZZZZ|56=ZZZZZZZZZZZZ|34=999999999|43=Y|52=99991231-23:59:59.999|122=99991231-23:59:59.999"
	great := func(m api.Msg) api.Msg {
		m.Sender, m.Target, m.Seq, m.Dup, m.Time, m.OrigTime = letters(12), letters(12), api.MaxSeq, true, api.MaxTime, api.MaxTime
		return m
	}
	const first = "|49=A|56=B|34=1|52=19700101-00:00:00.000"
	small := func(m api.Msg) api.Msg {
		m.Sender, m.Target, m.Seq = "A", "B", 1
		return m
	}
	text, id := letters(60), letters(20)
	return map[string]api.Msg{
		"35=0" + first:                                                           small(api.Msg{Kind: api.Heartbeat}),
		"35=0" + late + "|112=" + id:                                             great(api.Msg{Kind: api.Heartbeat, TestID: id}),
		"35=1" + head + "|112=x":                                                 headed(api.Msg{Kind: api.TestRequest, TestID: "x"}),
		"35=1" + late + "|112= ":                                                 great(api.Msg{Kind: api.TestRequest, TestID: " "}),
		"35=2" + first + "|7=1|16=0":                                             small(api.Msg{Kind: api.ResendRequest, Begin: 1}),
		"35=2" + late + "|7=999999999|16=999999999":                              great(api.Msg{Kind: api.ResendRequest, Begin: api.MaxSeq, End: api.MaxSeq}),
		"35=3" + first + "|45=1|373=0":                                           small(api.Msg{Kind: api.Reject, RefSeq: 1}),
		"35=3" + late + "|45=999999999|372=f|371=9999|373=999|58=" + text:        great(api.Msg{Kind: api.Reject, RefSeq: api.MaxSeq, RefKind: 17, RefTag: 9999, Reason: 999, Text: text}),
		"35=4" + first + "|36=1":                                                 small(api.Msg{Kind: api.SequenceReset, Next: 1}),
		"35=4" + late + "|36=999999999|123=Y|58=" + text:                         great(api.Msg{Kind: api.SequenceReset, Next: api.MaxSeq, Fill: true, Text: text}),
		"35=5" + first:                                                           small(api.Msg{Kind: api.Logout}),
		"35=5" + late + "|58=" + text:                                            great(api.Msg{Kind: api.Logout, Text: text}),
		"35=A" + first + "|98=0|108=1":                                           small(api.Msg{Kind: api.Logon, Beat: 1}),
		"35=A" + late + "|98=0|108=3600|141=Y":                                   great(api.Msg{Kind: api.Logon, Beat: 3600, Reset: true}),
		"35=D" + first + "|11=o|1=ACC|55=X|54=1|40=1|59=0|38=1":                  small(api.Msg{Kind: api.NewOrder, ID: "o", Account: "ACC", Symbol: "X", Side: api.Buy, Type: api.Market, Life: api.Day, Qty: 1}),
		"35=D" + head + "|11=o|1=ACC|55=X|54=2|40=3|59=0|18=6|99=1.5|38=3|110=2": headed(api.Msg{Kind: api.NewOrder, ID: "o", Account: "ACC", Symbol: "X", Side: api.Sell, Type: api.Stop, Life: api.PostOnly, Stop: 15000, Qty: 3, Least: 2}),
		"35=D" + late + "|11=" + id + "|1=ZZZZZZZZZZZZ|55=ZZZZZZZZ|54=2|40=4|59=6|44=100000|99=99999.9999|38=1000000|111=1000000|110=1000000|432=99991231": great(api.Msg{Kind: api.NewOrder, ID: id, Account: letters(12), Symbol: letters(8), Side: api.Sell, Type: api.StopLimit, Life: api.GTD, Price: api.MaxPrice, Stop: api.MaxPrice - 1, Qty: api.MaxQty, Show: api.MaxQty, Least: api.MaxQty, Until: 99991231}),
		"35=F" + first + "|11=p|41=o|55=X|54=1":                                          small(api.Msg{Kind: api.CancelOrder, ID: "p", OrigID: "o", Symbol: "X", Side: api.Buy}),
		"35=G" + first + "|11=p|41=o|55=X|54=1|38=1":                                     small(api.Msg{Kind: api.ReplaceOrder, ID: "p", OrigID: "o", Symbol: "X", Side: api.Buy, Qty: 1}),
		"35=G" + head + "|11=p|41=o|55=X|54=2|44=0.0001|99=1.0001|38=1000000":            headed(api.Msg{Kind: api.ReplaceOrder, ID: "p", OrigID: "o", Symbol: "X", Side: api.Sell, Price: 1, Stop: 10001, Qty: api.MaxQty}),
		"35=q" + first + "|11=p|530=7":                                                   small(api.Msg{Kind: api.MassCancel, ID: "p"}),
		"35=q" + head + "|11=p|1=ACC|54=1|530=7":                                         headed(api.Msg{Kind: api.MassCancel, ID: "p", Account: "ACC", Side: api.Buy}),
		"35=q" + head + "|11=p|1=ACC|55=X|54=1|530=1":                                    headed(api.Msg{Kind: api.MassCancel, ID: "p", Account: "ACC", Symbol: "X", Side: api.Buy}),
		"35=H" + first + "|11=o|55=X|54=1":                                               small(api.Msg{Kind: api.AskStatus, ID: "o", Symbol: "X", Side: api.Buy}),
		"35=8" + first + "|11=o|1=ACC|55=X|54=1|38=1|37=NONE|17=1|150=0|39=0|151=0|14=0": small(api.Msg{Kind: api.Execution, ID: "o", Account: "ACC", Symbol: "X", Side: api.Buy, Qty: 1, ExecID: 1, Exec: 1, State: 1}),
		"35=8" + late + "|103=999|58=" + text + "|11=" + id + "|41=" + id + "|1=ZZZZZZZZZZZZ|55=ZZZZZZZZ|54=2|40=4|59=0|18=6|44=99999.9999|99=99999.9999|38=1000000|111=1000000|37=999999999|17=999999999|150=F|39=C|31=99999.9999|32=1000000|151=999999|14=1": great(api.Msg{Kind: api.Execution, Reason: 999, Text: text, ID: id, OrigID: id, Account: letters(12), Symbol: letters(8), Side: api.Sell, Type: api.StopLimit, Life: api.PostOnly, Price: api.MaxPrice - 1, Stop: api.MaxPrice - 1, Qty: api.MaxQty, Show: api.MaxQty, OrderID: api.MaxSeq, ExecID: api.MaxSeq, Exec: 3, State: 6, LastPrice: api.MaxPrice - 1, LastQty: api.MaxQty, Left: api.MaxQty - 1, Done: 1}),
		"35=9" + first + "|102=0|11=p|41=o|37=NONE|39=8":               small(api.Msg{Kind: api.CancelReject, ID: "p", OrigID: "o", State: 5}),
		"35=9" + head + "|102=121|58=gone|11=p|41=o|37=1|39=2":         headed(api.Msg{Kind: api.CancelReject, Reason: 121, Text: "gone", ID: "p", OrigID: "o", OrderID: 1, State: 3}),
		"35=r" + first + "|11=p|533=0|530=7":                           small(api.Msg{Kind: api.MassReport, ID: "p"}),
		"35=r" + head + "|532=160|58=no|11=p|55=X|533=999999999|530=1": headed(api.Msg{Kind: api.MassReport, Reason: 160, Text: "no", ID: "p", Symbol: "X", Count: api.MaxSeq}),
		"35=j" + first + "|45=1|372=0|380=0":                           small(api.Msg{Kind: api.Refused, RefSeq: 1, RefKind: api.Heartbeat}),
		"35=j" + head + "|45=4|372=D|380=2|58=no":                      headed(api.Msg{Kind: api.Refused, RefSeq: 4, RefKind: api.NewOrder, Reason: 2, Text: "no"}),
		"35=f" + first + "|55=X|326=18":                                small(api.Msg{Kind: api.Status, Symbol: "X"}),
		"35=f" + head + "|58=~|55=X|326=26":                            headed(api.Msg{Kind: api.Status, Text: "~", Symbol: "X", Phase: api.Closing}),
	}
}

func TestX1MessagesAreWritten(t *testing.T) {
	kinds := 0
	for want, m := range written() {
		kinds |= 1 << m.Kind
		b, e := Encode(m)
		if e != api.OK || bodyOf(t, b) != want {
			t.Errorf("Encode(%+v) = %s, %d; want %s", m, bodyOf(t, b), e, want)
		}
		wantMsg(t, b, m)
	}
	if kinds != 1<<18-2 {
		t.Errorf("not all kinds are here: %b", kinds)
	}
}

func TestX1Frame(t *testing.T) {
	b, e := Encode(headed(api.Msg{Kind: api.TestRequest, TestID: "x"}))
	want := "8=FIX.4.4|9=51|35=1" + head + "|112=x|10=" // 51 is the chapter's
	sum := 0
	for _, c := range []byte(strings.ReplaceAll(strings.TrimSuffix(want, "10="), "|", "\x01")) {
		sum += int(c)
	}
	want += string([]byte{byte('0' + sum%256/100), byte('0' + sum%256/10%10), byte('0' + sum%256%10)}) + "|"
	if got := strings.ReplaceAll(string(b), "\x01", "|"); e != api.OK || got != want {
		t.Errorf("Encode = %q, %d; want %q", got, e, want)
	}
}

// The words of the chapter for numbers, by tag: number and word.
func TestX1Words(t *testing.T) {
	kinds := "1 0 2 1 3 2 4 3 5 4 6 5 7 A 8 D 9 F 10 G 11 q 12 H 13 8 14 9 15 r 16 j 17 f"
	for _, c := range []struct {
		base  string
		tag   int
		field string
		words string
	}{
		{"35=j" + head + "|45=4|372=D|380=2", 372, "RefKind", kinds},
		{"35=3" + head + "|45=4|372=D|373=2", 372, "RefKind", kinds},
		{"35=q" + head + "|11=p|54=1|530=7", 54, "Side", "1 1 2 2"},
		{execution, 40, "Type", "2 1 1 2 3 3 4 4"},
		{execution, 59, "Life", "1 0 4 1 6 2 2 3 3 4 5 6"},
		{execution, 150, "Exec", "1 0 2 8 4 4 5 5 6 L 7 C 8 I"},
		{execution, 39, "State", "1 0 2 1 3 2 4 4 5 8 6 C"},
		{"35=9" + head + "|102=0|11=p|41=o|37=1|39=8", 39, "State", "1 0 2 1 3 2 4 4 5 8 6 C"},
		{"35=f" + head + "|55=X|326=18", 326, "Phase", "0 18 1 21 2 22 3 17 4 2 5 26"},
	} {
		words := strings.Fields(c.words)
		numbers := map[string]int{}
		for i := 0; i < len(words); i += 2 {
			numbers[words[i+1]], _ = strconv.Atoi(words[i])
		}
		l := fieldsOf(t, c.base)
		at := slices.IndexFunc(l, func(f api.Field) bool { return f.Tag == c.tag })
		for _, word := range shortValues() {
			if c.tag == 150 && word == "F" { // a trade, which has more fields
				continue
			}
			l[at].Value = word
			frame := frameOf(t, l)
			n, right := numbers[word]
			if !right {
				wantFault(t, frame, api.Fault{At: at, Err: api.ErrField}, 5, c.tag)
				continue
			}
			m, err := Decode(frame)
			if err != nil || reflect.ValueOf(m).FieldByName(c.field).Int() != int64(n) {
				t.Errorf("Decode(%q) = %+v, %v; want %s %d", frame, m, err, c.field, n)
			}
			if b, e := Encode(m); e != api.OK || !bytes.Equal(b, frame) {
				t.Errorf("Encode(%+v) = %q, %d; want %q", m, b, e, frame)
			}
		}
	}
}

// execution has an Exec that may be any but 3.
const execution = "35=8" + head + "|11=o|1=ACC|55=X|54=1|40=2|59=0|38=9|37=5|17=6|150=0|39=0|151=4|14=5"

// shortValues gives all values of one byte, and those of two that are made of some bytes.
func shortValues() []string {
	var out []string
	for c := 32; c <= 126; c++ {
		out = append(out, string(rune(c)))
	}
	const some = "0123456789ADFNYqrjf "
	for _, a := range some {
		for _, b := range some {
			out = append(out, string(a)+string(b))
		}
	}
	return out
}

func TestX1KindsAreTypes(t *testing.T) {
	types := strings.Fields("0 1 2 3 4 5 A D F G q H 8 9 r j f")
	for _, word := range append(shortValues(), "NONE", "Logon", "AA") {
		l := fieldsOf(t, "35=0"+head)
		l[0].Value = word
		frame := frameOf(t, l)
		_, _, m := Why(frame)
		if m.Kind != slices.Index(types, word)+1 {
			t.Errorf("Why(%q): kind %d", frame, m.Kind)
		}
		if m.Kind == 0 {
			wantFault(t, frame, api.Fault{At: 0, Err: api.ErrKind}, 11, 35)
		}
	}
}

func TestX1ErrorsAreValids(t *testing.T) {
	for _, m := range written() {
		for i := range reflect.TypeOf(m).NumField() {
			for _, way := range []int64{0, -1, 1, 8, 18, 99999999999999, math.MaxInt64, math.MinInt64} {
				n := m
				spoil(reflect.ValueOf(&n).Elem().Field(i), way)
				want, _ := msg.Valid(n)
				b, e := Encode(n)
				if e != want || (b == nil) != (e != api.OK) {
					t.Errorf("Encode(%+v) = %q, %d; want %d", n, b, e, want)
				}
				if e == api.OK {
					wantMsg(t, b, n)
				}
			}
		}
	}
	if b, e := Encode(api.Msg{}); b != nil || e != api.ErrKind {
		t.Errorf("Encode of nothing: %q, %d", b, e)
	}
}

func spoil(f reflect.Value, way int64) {
	switch f.Kind() {
	case reflect.Bool:
		f.SetBool(way != 0)
	case reflect.String:
		f.SetString([]string{"", "A", "a b", "é", "A\x01B", "a|b", letters(61), "|"}[uint64(way)%8])
	default:
		f.SetInt(way)
	}
}

func TestX1NoFrameIsTooLong(t *testing.T) {
	for _, m := range written() {
		b, e := Encode(m)
		if e != api.OK || len(b) > 1024 {
			t.Errorf("Encode(%+v): %d bytes, %d", m, len(b), e)
		}
	}
}

func TestX2WhichFault(t *testing.T) {
	turn := func(from, to string) string { return strings.Replace(order, from, to, 1) }
	for _, c := range []struct {
		s           string
		at          int
		e           api.Errno
		reason, tag int
	}{
		// The first field.
		{"34=7", 0, api.ErrMissing, 1, 35},
		{"49=A|35=0|56=B|34=7|52=" + stampText, 0, api.ErrMissing, 1, 35},
		{"9000=A|35=0", 0, api.ErrMissing, 1, 35},
		{"35=Z" + head, 0, api.ErrKind, 11, 35},
		{"35=Z" + head + "|9000=1", 0, api.ErrKind, 11, 35},
		{"35=a", 0, api.ErrKind, 11, 35},
		{"35=00", 0, api.ErrKind, 11, 35},

		// Each further field by itself: the first that is wrong is told, by its first fault.
		{"35=1|9000=1" + head, 1, api.ErrUnknown, 0, 9000},
		{"35=1|9000=1|44=1" + head, 1, api.ErrUnknown, 0, 9000},
		{"35=1|44=1|9000=1" + head, 1, api.ErrForeign, 2, 44},
		{"35=1|44=x|44=x", 1, api.ErrForeign, 2, 44},
		{"35=1|34=07|9000=1", 1, api.ErrField, 5, 34},
		{"35=1|34=7|34=07", 2, api.ErrTwice, 13, 34},
		{"35=1|34=07|34=7", 1, api.ErrField, 5, 34},
		{"35=1|9000=1|9000=1", 1, api.ErrUnknown, 0, 9000},
		{"35=0" + head + "|35=0", 5, api.ErrTwice, 13, 35},
		{"35=0" + head + "|35=Z", 5, api.ErrTwice, 13, 35},
		{"35=0" + head + "|383=1", 5, api.ErrUnknown, 0, 383},
		{"35=0" + head + "|98=0", 5, api.ErrForeign, 2, 98},
		{"35=0" + head + "|18=6", 5, api.ErrForeign, 2, 18},
		{"35=G" + head + "|18=6", 5, api.ErrForeign, 2, 18},
		{"35=0" + head + "|530=7", 5, api.ErrForeign, 2, 530},
		{"35=D" + head + "|530=7", 5, api.ErrForeign, 2, 530},
		{"35=A" + head + "|98=0|98=0", 6, api.ErrTwice, 13, 98},
		{"35=A" + head + "|98=1|108=30", 5, api.ErrField, 5, 98},
		{"35=A" + head + "|98=00|108=30", 5, api.ErrField, 5, 98},
		{order + "|18=6|18=6", 14, api.ErrTwice, 13, 18},
		{order + "|18=5", 13, api.ErrField, 5, 18},
		{order + "|18=66", 13, api.ErrField, 5, 18},
		{order + "|18=N", 13, api.ErrField, 5, 18},
		{"35=q" + head + "|11=q|530=2", 6, api.ErrField, 5, 530},
		{"35=q" + head + "|11=q|530=17", 6, api.ErrField, 5, 530},
		{"35=q" + head + "|11=q|530=7|530=1", 7, api.ErrTwice, 13, 530},
		{"35=0|49=a" + head, 1, api.ErrField, 5, 49},
		{"35=0" + head + "|43=y", 5, api.ErrField, 5, 43},
		{"35=0" + head + "|43=T", 5, api.ErrField, 5, 43},
		{"35=0" + head + "|122=19700101-00:00:00|43=Y", 5, api.ErrField, 5, 122},
		{"35=9" + head + "|102=0|11=c|41=a|37=0|39=8", 8, api.ErrField, 5, 37},
		{"35=9" + head + "|102=0|11=c|41=a|37=none|39=8", 8, api.ErrField, 5, 37},
		{"35=9" + head + "|102=0|11=c|41=a|37=05|39=8", 8, api.ErrField, 5, 37},
		{"35=9" + head + "|102=0|11=c|41=a|37=1000000000|39=8", 8, api.ErrField, 5, 37},

		// A field that must be there.
		{"35=0", 1, api.ErrMissing, 1, 49},
		{"35=0|49=A", 2, api.ErrMissing, 1, 56},
		{"35=0|56=B|49=A", 3, api.ErrMissing, 1, 34},
		{"35=0|56=B|49=A|34=7", 4, api.ErrMissing, 1, 52},
		{"35=1" + head, 5, api.ErrMissing, 1, 112},
		{"35=A" + head, 5, api.ErrMissing, 1, 98},
		{"35=A" + head + "|108=30", 6, api.ErrMissing, 1, 98},
		{"35=A" + head + "|98=0", 6, api.ErrMissing, 1, 108},
		{"35=2" + head + "|7=1", 6, api.ErrMissing, 1, 16},
		{"35=3" + head + "|45=1", 6, api.ErrMissing, 1, 373},
		{"35=j" + head + "|45=1|372=0", 7, api.ErrMissing, 1, 380},
		{"35=9" + head + "|11=c|41=a|37=1|39=8", 9, api.ErrMissing, 1, 102},
		{"35=q" + head + "|11=q", 6, api.ErrMissing, 1, 530},
		{"35=q" + head + "|530=1", 6, api.ErrMissing, 1, 11},
		{"35=r" + head + "|11=q|530=1", 7, api.ErrMissing, 1, 533},
		{"35=r" + head + "|11=q|533=1", 7, api.ErrMissing, 1, 530},
		{"35=r" + head + "|11=q", 6, api.ErrMissing, 1, 533},
		{"35=f" + head + "|55=X", 6, api.ErrMissing, 1, 326},
		{turn("|59=0", "") + "|18=6", 13, api.ErrMissing, 1, 59},
		{turn("|38=10", "") + "|18=6|111=11", 14, api.ErrMissing, 1, 38},
		{strings.Replace(execution, "|39=0|151=4|14=5", "", 1), 15, api.ErrMissing, 1, 39},

		// What must fit together.
		{turn("59=0", "59=3|18=6"), 11, api.ErrField, 5, 18},
		{turn("59=0", "18=6|59=3"), 10, api.ErrField, 5, 18},
		{turn("59=0", "59=2|18=6") + "|432=20261120|122=" + stampText, 11, api.ErrField, 5, 18},
		{strings.Replace(execution, "|59=0", "|18=6", 1), 10, api.ErrField, 5, 18},
		{"35=q" + head + "|11=q|530=1", 6, api.ErrField, 5, 530},
		{"35=q" + head + "|530=7|11=q|55=ABC", 5, api.ErrField, 5, 530},
		{"35=q" + head + "|530=7|11=q|55=ABC|122=" + stampText, 5, api.ErrField, 5, 530},
		{"35=r" + head + "|11=q|533=0|530=1", 7, api.ErrField, 5, 530},
		{"35=r" + head + "|11=q|533=0|530=7|55=ABC", 7, api.ErrField, 5, 530},
		{"35=0" + head + "|122=" + stampText, 5, api.ErrField, 5, 122},
		{"35=0" + head + "|122=" + stampText + "|43=N", 5, api.ErrField, 5, 122},
		{"35=2" + head + "|7=3|16=2", 6, api.ErrField, 5, 16},
		{turn("|44=1", ""), 12, api.ErrField, 5, 44},
		{turn("40=2", "40=1"), 11, api.ErrField, 5, 44},
		{turn("40=2", "40=4"), 13, api.ErrField, 5, 99},
		{order + "|99=1", 13, api.ErrField, 5, 99},
		{order + "|111=11", 13, api.ErrField, 5, 111},
		{order + "|110=11|111=11", 14, api.ErrField, 5, 111},
		{order + "|110=11", 13, api.ErrField, 5, 110},
		{turn("59=0", "59=6"), 13, api.ErrField, 5, 432},
		{order + "|432=20261120", 13, api.ErrField, 5, 432},
		{order + "|432=20261120|18=6", 13, api.ErrField, 5, 432},
		{strings.Replace(execution, "150=0", "150=F", 1), 18, api.ErrField, 5, 31},
		{strings.Replace(execution, "150=0", "150=F|31=1", 1), 19, api.ErrField, 5, 32},
		{execution + "|31=1", 18, api.ErrField, 5, 31},
		{execution + "|32=1", 18, api.ErrField, 5, 32},
		{strings.Replace(execution, "14=5", "14=6", 1), 17, api.ErrField, 5, 14},
	} {
		wantFault(t, frameOf(t, fieldsOf(t, c.s)), api.Fault{At: c.at, Err: c.e}, c.reason, c.tag)
	}
	wantFault(t, frameOf(t, nil), api.Fault{At: 0, Err: api.ErrMissing}, 1, 35)
}

func TestX2WhatIsTaken(t *testing.T) {
	beat := headed(api.Msg{Kind: api.Heartbeat})
	whole := beat
	whole.Time = stampTime - 789
	limit := headed(api.Msg{Kind: api.NewOrder, ID: "a", Account: "ACC", Symbol: "ABC", Side: api.Buy, Type: api.Limit, Life: api.Day, Price: 10000, Qty: 10})
	fifty, post := limit, limit
	fifty.Price, post.Life = 15000, api.PostOnly
	report := headed(api.Msg{Kind: api.MassReport, ID: "q"})
	for s, want := range map[string]api.Msg{
		"35=0" + head: beat,
		"35=0|52=" + stampText + "|34=7|56=B|49=A": beat,
		"35=0" + head + "|43=N":                    beat,
		"35=0|34=7|52=20240229-12:34:56|56=B|49=A": whole,
		order: limit,
		strings.Replace(order, "44=1", "44=1.50", 1):   fifty,
		strings.Replace(order, "44=1", "44=1.5000", 1): fifty,
		order + "|18=6": post,
		strings.Replace(order, "35=D", "35=D|18=6", 1):            post,
		"35=r" + head + "|532=0|11=q|533=0|530=7":                 report,
		"35=r|530=7" + head + "|533=0|11=q":                       report,
		"35=4" + head + "|36=9|123=N":                             headed(api.Msg{Kind: api.SequenceReset, Next: 9}),
		"35=A" + head + "|141=N|108=30|98=0":                      headed(api.Msg{Kind: api.Logon, Beat: 30}),
		"35=9" + head + "|102=0|11=c|41=a|37=NONE|39=8":           headed(api.Msg{Kind: api.CancelReject, ID: "c", OrigID: "a", State: 5}),
		"35=0" + head + "|122=20240229-12:34:56|43=Y":             headed(api.Msg{Kind: api.Heartbeat, Dup: true, OrigTime: stampTime - 789}),
		"35=5|58=a=b 8=FIX.4.4" + head:                            headed(api.Msg{Kind: api.Logout, Text: "a=b 8=FIX.4.4"}),
		strings.Replace(execution, "|40=2|59=0", "|103=0", 1):     headed(api.Msg{Kind: api.Execution, ID: "o", Account: "ACC", Symbol: "X", Side: api.Buy, Qty: 9, OrderID: 5, ExecID: 6, Exec: 1, State: 1, Left: 4, Done: 5}),
		strings.Replace(execution, "|40=2|59=0", "|59=0|18=6", 1): headed(api.Msg{Kind: api.Execution, ID: "o", Account: "ACC", Symbol: "X", Side: api.Buy, Life: api.PostOnly, Qty: 9, OrderID: 5, ExecID: 6, Exec: 1, State: 1, Left: 4, Done: 5}),
	} {
		frame := frameOf(t, fieldsOf(t, s))
		wantMsg(t, frame, want)
		b, e := Encode(want)
		if e != api.OK {
			t.Errorf("Encode(%+v): %d", want, e)
		}
		wantMsg(t, b, want)
	}
}

func TestX2SplitsFaultsAreTold(t *testing.T) {
	good := frameOf(t, fieldsOf(t, order))
	frames := [][]byte{nil, {}, []byte("8"), []byte("8=FIX.4.4\x01"), good[:len(good)-1], append(slices.Clone(good), 0), bytes.Repeat([]byte("8"), 1025), bytes.Repeat([]byte{1}, 5000)}
	for at := range good {
		spoilt := slices.Clone(good)
		spoilt[at] ^= 1
		frames = append(frames, spoilt)
	}
	for _, frame := range frames {
		_, splits := fields.Split(frame)
		want, ok := splits.(*api.Fault)
		if !ok {
			t.Fatalf("Split(%q): %v", frame, splits)
		}
		wantFault(t, frame, *want, -1, 0)
		if _, _, m := Why(frame); m != (api.Msg{}) {
			t.Errorf("Why(%q) read %+v", frame, m)
		}
	}
}

func TestX2EachTagOfEachKind(t *testing.T) {
	t.Parallel()
	known := map[int]bool{98: true, 18: true, 530: true, 380: true, 102: true, 103: true, 532: true}
	for _, l := range chapter() {
		known[l.number] = true
	}
	for kind := 1; kind <= 17; kind++ {
		has := tagsOf(kind)
		for tag := 1; tag <= 9999; tag++ {
			if tag >= 8 && tag <= 10 { // the frame's own
				continue
			}
			frame := frameOf(t, []api.Field{{Tag: 35, Value: typeOf(kind)}, {Tag: tag, Value: "~"}})
			switch {
			case !known[tag]:
				wantFault(t, frame, api.Fault{At: 1, Err: api.ErrUnknown}, 0, tag)
			case !has[tag]:
				wantFault(t, frame, api.Fault{At: 1, Err: api.ErrForeign}, 2, tag)
			case tag == 35:
				wantFault(t, frame, api.Fault{At: 1, Err: api.ErrTwice}, 13, tag)
			case tag == 58 || tag == 112:
				wantFault(t, frame, api.Fault{At: 2, Err: api.ErrMissing}, 1, 49)
			default:
				wantFault(t, frame, api.Fault{At: 1, Err: api.ErrField}, 5, tag)
			}
		}
	}
}

// Each field of each kind, with values at its edges, and of orders with all short ones. What is wrong with a field is told ahead of what stands behind it.
func TestX2EachValueOfEachField(t *testing.T) {
	t.Parallel()
	behind := api.Field{Tag: 9000, Value: "1"}
	edges, shorts := edgeValues(), shortValues()
	for _, m := range written() {
		l := chapterFields(m)
		for _, tag := range slices.Sorted(maps.Keys(tagsOf(m.Kind))) {
			for _, v := range edges {
				spoilt := withValue(l, tag, v)
				holdAgainstChapter(t, spoilt)
				holdAgainstChapter(t, append(spoilt, behind))
			}
			for _, v := range shorts {
				if m.Kind == api.NewOrder {
					holdAgainstChapter(t, withValue(l, tag, v))
				}
			}
		}
	}
}

// withValue gives the fields with another value in one; it comes behind the others, if it was not there.
func withValue(l []api.Field, tag int, value string) []api.Field {
	out := slices.Clone(l)
	at := slices.IndexFunc(out, func(f api.Field) bool { return f.Tag == tag })
	if at < 0 {
		return append(out, api.Field{Tag: tag, Value: value})
	}
	out[at].Value = value
	return out
}

// edgeValues gives what stands at the edges of the forms.
func edgeValues() []string {
	out := strings.Split("0|1|2|00|01|-1|+1|1.|.5|1.5|1.50|0.0001|0.0000|0.00001|1.00001|100000|100000.0000|100000.0001|100001|99999.9999|"+
		"9|10|17|18|99|998|999|1000|3599|3600|3601|9998|9999|10000|999999|1000000|1000001|999999999|1000000000|1000000001|"+
		"9223372036854775807|9223372036854775808|18446744073709551617|99999999999999999999999|"+
		"NONE|none|NONE |Y|N|y|n|true|YES| Y|A B|A-|a|Z|Zz|a.b_c-d|1A|A1|9|_|~|a=b|"+
		stampText+"|20240229-12:34:56|19700101-00:00:00|19700101-00:00:00.000|19700101-00:00:00.001|99991231-23:59:59.999|20230229-12:34:56|20240229-24:00:00|20240229-12:34:56.7|20240229 12:34:56|00000101-00:00:00|"+
		"19700101|19691231|20240229|20230229|20261301|99991231|100000101|020240229|20240229 |00010101|01970010", "|")
	for _, n := range []int{8, 9, 12, 13, 20, 21, 60, 61} {
		out = append(out, letters(n), strings.Repeat("9", n), strings.Repeat("a", n-1)+"|", strings.Repeat(" ", n))
	}
	return append(out, "|", "a|b")
}

func TestX3WhatCanBeRead(t *testing.T) {
	only := api.Msg{Sender: "A", Target: "B", Seq: 7, Time: stampTime}
	with := func(change func(m *api.Msg)) api.Msg {
		m := only
		change(&m)
		return m
	}
	for s, want := range map[string]api.Msg{
		// Without a kind.
		"35=Z" + head: only,
		"35=Z" + head + "|43=Y|122=" + stampText + "|112=x|58=y|11=a|44=1|373=5|98=0": with(func(m *api.Msg) { m.Dup, m.OrigTime = true, stampTime }),
		"49=A|35=0|56=B|34=7|52=" + stampText + "|112=x":                              only,
		"112=x|35=0" + head:      only,
		"35=Z|49=a" + head:       with(func(m *api.Msg) { m.Sender = "" }),
		"35=Z|34=07|34=8" + head: with(func(m *api.Msg) { m.Seq = 0 }),
		"35=Z|34=8" + head:       with(func(m *api.Msg) { m.Seq = 8 }),
		"34=5":                   {Seq: 5},
		"9000=1|43=N":            {},
		"35=Z|18=6|59=0":         {},

		// With one.
		"35=1" + head:                          with(func(m *api.Msg) { m.Kind = api.TestRequest }),
		"35=1" + head + "|9000=1|112=x":        with(func(m *api.Msg) { m.Kind, m.TestID = api.TestRequest, "x" }),
		"35=1" + head + "|35=0|112=x":          with(func(m *api.Msg) { m.Kind, m.TestID = api.TestRequest, "x" }),
		"35=1" + head + "|44=1|11=a|373=5":     with(func(m *api.Msg) { m.Kind = api.TestRequest }),
		"35=0" + head + "|34=9|112=y|112=x":    with(func(m *api.Msg) { m.Kind, m.TestID = api.Heartbeat, "y" }),
		"35=0|34=07" + head:                    with(func(m *api.Msg) { m.Kind, m.Seq = api.Heartbeat, 0 }),
		"35=0" + head + "|122=" + stampText:    with(func(m *api.Msg) { m.Kind, m.OrigTime = api.Heartbeat, stampTime }),
		"35=j" + head + "|373=5":               with(func(m *api.Msg) { m.Kind = api.Refused }),
		"35=j" + head + "|380=5":               with(func(m *api.Msg) { m.Kind, m.Reason = api.Refused, 5 }),
		"35=8" + head + "|102=5":               with(func(m *api.Msg) { m.Kind = api.Execution }),
		"35=8" + head + "|373=4|103=5|37=NONE": with(func(m *api.Msg) { m.Kind, m.Reason = api.Execution, 5 }),
		"35=9" + head + "|103=4|102=5|37=6":    with(func(m *api.Msg) { m.Kind, m.Reason, m.OrderID = api.CancelReject, 5, 6 }),
		"35=r" + head + "|380=4|532=5|530=1":   with(func(m *api.Msg) { m.Kind, m.Reason = api.MassReport, 5 }),
		"35=3" + head + "|532=4|373=1000":      with(func(m *api.Msg) { m.Kind = api.Reject }),
		"35=2" + head + "|7=3|16=2":            with(func(m *api.Msg) { m.Kind, m.Begin, m.End = api.ResendRequest, 3, 2 }),

		// 18 and 59.
		"35=D" + head + "|18=6|59=0":      with(func(m *api.Msg) { m.Kind, m.Life = api.NewOrder, api.PostOnly }),
		"35=D" + head + "|59=0|18=6":      with(func(m *api.Msg) { m.Kind, m.Life = api.NewOrder, api.PostOnly }),
		"35=8" + head + "|59=0|18=6|18=5": with(func(m *api.Msg) { m.Kind, m.Life = api.Execution, api.PostOnly }),
		"35=D" + head + "|59=0|18=5|18=6": with(func(m *api.Msg) { m.Kind, m.Life = api.NewOrder, api.Day }),
		"35=D" + head + "|59=0|59=3|18=6": with(func(m *api.Msg) { m.Kind, m.Life = api.NewOrder, api.PostOnly }),
		"35=D" + head + "|59=3|59=0|18=6": with(func(m *api.Msg) { m.Kind, m.Life = api.NewOrder, api.IOC }),
		"35=D" + head + "|59=7|59=0|18=6": with(func(m *api.Msg) { m.Kind = api.NewOrder }),
		"35=D" + head + "|18=6":           with(func(m *api.Msg) { m.Kind = api.NewOrder }),
		"35=D" + head + "|59=0":           with(func(m *api.Msg) { m.Kind, m.Life = api.NewOrder, api.Day }),
		"35=G" + head + "|59=0|18=6|38=5": with(func(m *api.Msg) { m.Kind, m.Qty = api.ReplaceOrder, 5 }),
		"35=D" + head + "|54=9|44=1.5|18=6|59=0|38=5|9000=1": with(func(m *api.Msg) {
			m.Kind, m.Price, m.Life, m.Qty = api.NewOrder, 15000, api.PostOnly, 5
		}),
	} {
		if reason, tag, m := Why(frameOf(t, fieldsOf(t, s))); m != want || reason == 0 && tag == 0 {
			t.Errorf("Why(%s) = %d, %d, %+v; want %+v", s, reason, tag, m, want)
		}
	}
}

func TestWhatFollowsOneByteTurned(t *testing.T) {
	for _, s := range []string{"35=1" + head + "|112=x", order + "|18=6", "35=r" + head + "|532=3|11=q|55=ABC|533=0|530=1"} {
		frame := frameOf(t, fieldsOf(t, s))
		was, err := Decode(frame)
		if err != nil {
			t.Fatal(err)
		}
		for at := range frame {
			for c := range 256 {
				spoilt := slices.Clone(frame)
				spoilt[at] = byte(c)
				if m, err := Decode(spoilt); err == nil && m == was && spoilt[at] != frame[at] {
					t.Errorf("byte %d as %d: the same message", at, c)
				}
			}
		}
	}
}

func TestWhatFollowsForAnyMessage(t *testing.T) {
	t.Parallel()
	r := rand.New(rand.NewSource(5))
	for range 8000 {
		m := anyMsg(r)
		want := frameOf(t, chapterFields(m))
		b, e := Encode(m)
		if e != api.OK || !bytes.Equal(b, want) || len(b) > 1024 {
			t.Fatalf("Encode(%+v) = %q, %d; want %q", m, b, e, want)
		}
		wantMsg(t, b, m)
		l := chapterFields(m)
		r.Shuffle(len(l)-1, func(i, k int) { l[i+1], l[k+1] = l[k+1], l[i+1] })
		wantMsg(t, frameOf(t, l), m)
	}
}

func TestX2X3AnySpoiltMessage(t *testing.T) {
	t.Parallel()
	r := rand.New(rand.NewSource(6))
	values := append(edgeValues(), "6", "7", "1", "0")
	for range 25000 {
		l := chapterFields(anyMsg(r))
		for range r.Intn(4) {
			l = spoilFields(r, l, values)
		}
		holdAgainstChapter(t, l)
	}
}

// spoilFields does one thing to fields: it moves, drops, doubles, turns one, or puts one in.
func spoilFields(r *rand.Rand, l []api.Field, values []string) []api.Field {
	if len(l) == 0 {
		return l
	}
	at, value := r.Intn(len(l)), values[r.Intn(len(values))]
	tags := []int{35, 49, 34, 43, 52, 122, 98, 18, 530, 59, 44, 99, 55, 373, 380, 102, 103, 532, 533, 58, 112, 7, 11, 383, 9000, 2}
	switch r.Intn(7) {
	case 0:
		r.Shuffle(len(l)-1, func(i, k int) { l[i+1], l[k+1] = l[k+1], l[i+1] })
	case 1:
		r.Shuffle(len(l), func(i, k int) { l[i], l[k] = l[k], l[i] })
	case 2:
		l = slices.Delete(l, at, at+1)
	case 3:
		l = slices.Insert(l, r.Intn(len(l)+1), api.Field{Tag: l[at].Tag, Value: value})
	case 4:
		l[at].Value = value
	case 5:
		l = slices.Insert(l, 1, api.Field{Tag: tags[r.Intn(len(tags))], Value: value})
	case 6:
		l = slices.Insert(l, r.Intn(len(l)+1), api.Field{Tag: tags[r.Intn(len(tags))], Value: l[at].Value})
	}
	return l
}

func TestP3NothingIsSharedOrWritten(t *testing.T) {
	for _, s := range []string{order, "35=0" + head, "35=1" + head, "35=5" + head + "|58=some text"} {
		frame := frameOf(t, fieldsOf(t, s))
		was := slices.Clone(frame)
		m, err := Decode(frame)
		_, _, read := Why(frame)
		if !bytes.Equal(frame, was) {
			t.Errorf("%s: the frame was written into", s)
		}
		copyM, copyRead := m, read
		copyM.Text, copyRead.Text = strings.Clone(m.Text), strings.Clone(read.Text)
		copyM.Sender, copyRead.Sender = strings.Clone(m.Sender), strings.Clone(read.Sender)
		clear(frame)
		if m != copyM || read != copyRead {
			t.Errorf("%s: the message hangs on the frame", s)
		}
		if f, ok := err.(*api.Fault); ok {
			*f = api.Fault{}
			if _, err := Decode(was); *err.(*api.Fault) == *f {
				t.Errorf("%s: the fault is kept", s)
			}
		}
	}
	m := headed(api.Msg{Kind: api.Heartbeat})
	a, _ := Encode(m)
	clear(a[:cap(a)])
	if b, _ := Encode(m); bodyOf(t, b) != "35=0"+head {
		t.Error("Encode's answer is kept")
	}
}

func FuzzDecode(f *testing.F) {
	for _, m := range written() {
		b, _ := Encode(m)
		f.Add(b)
	}
	f.Fuzz(func(t *testing.T, b []byte) {
		l, err := fields.Split(b)
		if err == nil {
			holdAgainstChapter(t, l)
			return
		}
		if reason, tag, m := Why(b); reason != -1 || tag != 0 || m != (api.Msg{}) {
			t.Errorf("Why(%q) = %d, %d, %+v", b, reason, tag, m)
		}
	})
}
