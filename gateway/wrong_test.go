package gateway

import (
	"bytes"
	"fmt"
	"strings"
	"testing"

	"outcry/api"
	"outcry/framer"
	"outcry/num"
)

// textFrame: the frame of a body, in which | stands for the byte 1; with the length and the sum that go with it.
func textFrame(body string) []byte {
	body = strings.ReplaceAll(body, "|", "\x01")
	s := fmt.Sprintf("8=FIX.4.4\x019=%d\x01%s", len(body), body)
	sum := 0
	for _, c := range []byte(s) {
		sum += int(c)
	}
	return fmt.Appendf(nil, "%s10=%03d\x01", s, sum%256)
}

const head = "|49=F1|56=EX|52=20240103-09:00:00|34="

func reject(seq, kind, reason, tag int) api.Msg {
	return api.Msg{Kind: api.Refused, RefSeq: seq, RefKind: kind, Reason: reason, Text: fmt.Sprint("tag ", tag)}
}

func TestY8Told(t *testing.T) {
	w := start(t)
	a := w.end("F1", framer.Text).logsOn()
	const order = "|11=x|1=A1|55=ABC|40=2|59=0|44=1|38=5"
	for n, c := range []struct {
		kind, rest        string
		is, reason, tagIs int
	}{
		{"D", order, api.NewOrder, 1, 54},
		{"D", order + "|54=3", api.NewOrder, 5, 54},
		{"D", order + "|54=1|54=1", api.NewOrder, 13, 54},
		{"D", order + "|54=1|112=x", api.NewOrder, 2, 112},
		{"D", order + "|54=1|9999=x", api.NewOrder, 0, 9999},
		{"D", order + "|54=1|18=6|99=5", api.NewOrder, 5, 99},
		{"1", "", api.TestRequest, 1, 112},
		{"Z", "", api.Refused, 11, 35},
		{"A", "", api.Logon, 1, 98},
		{"5", "|11=x", api.Logout, 2, 11},
		{"2", "|7=5|16=4", api.ResendRequest, 5, 16},
		{"4", "|36=9|123=X", api.SequenceReset, 5, 123},
		{"0", "|122=20240103-09:00:00", api.Heartbeat, 5, 122},
		{"j", "|45=1|372=D|380=1000", api.Refused, 5, 380},
	} {
		seq := n + 2
		w.bytes(a.conn, textFrame(fmt.Sprint("35=", c.kind, head, seq, c.rest, "|")))
		a.hears(reject(seq, c.is, c.reason, c.tagIs))
		if in := w.view(1).In; in != seq+1 {
			t.Errorf("%+v: in is %d", c, in)
		}
	}
	w.commands()
}

// TestY8NoKind: of a frame that does not begin with its kind the number is passed over, too; the kind that is named is 16.
func TestY8NoKind(t *testing.T) {
	w := start(t)
	a := w.end("F1", framer.Text).logsOn()
	w.bytes(a.conn, textFrame("49=F1|56=EX|52=20240103-09:00:00|34=2|35=0|"))
	a.hears(reject(2, 16, 1, 35))
}

// TestY8LetBe: wrong frames that nobody can say to be the firm's next message change nothing.
func TestY8LetBe(t *testing.T) {
	w := start(t)
	a := w.end("F1", framer.Text).logsOn()
	w.end("F2", framer.Text).logsOn()
	before := w.view(1)
	for _, body := range []string{
		"35=0|49=F2|56=EX|34=2|52=20240103-09:00:00|9000=1|",
		"35=0|49=F1|56=F2|34=2|52=20240103-09:00:00|9000=1|",
		"35=0|56=EX|34=2|52=20240103-09:00:00|",
		"35=0|49=F1|34=2|52=20240103-09:00:00|",
		"35=0|49=F1|56=EX|52=20240103-09:00:00|",
		"35=0|49=F1|56=EX|34=0|52=20240103-09:00:00|",
		"35=0|49=F1|56=EX|34=02|52=20240103-09:00:00|",
		"35=0|49=F1|56=EX|34=1000000000|52=20240103-09:00:00|",
		"35=0|49=f1|56=EX|34=2|52=20240103-09:00:00|",
		"nonsense", "", "35=0", "35=0|=|", "|",
	} {
		w.bytes(a.conn, textFrame(body))
		a.hears()
		if w.view(1) != before {
			t.Errorf("%s: the session is %+v, was %+v", body, w.view(1), before)
		}
	}
	a.says(api.Msg{Kind: api.TestRequest, TestID: "x"})
	a.hears(api.Msg{Kind: api.Heartbeat, TestID: "x"})
}

// TestY8Unbound: over a connection that is not bound wrong frames are let be, and it is not refused by them.
func TestY8Unbound(t *testing.T) {
	w := start(t)
	a := w.end("F1", framer.Text)
	a.conn = w.connect(framer.Text)
	for _, kind := range []string{"1", "A", "Z"} {
		w.bytes(a.conn, textFrame("35="+kind+head+"1|"))
		w.over(a.conn, "", false)
	}
	if w.view(1) != (api.LinkView{In: 1, Out: 1}) {
		t.Errorf("the session is %+v", w.view(1))
	}
	a.says(logon())
	a.hears(logon())
}

// TestY8Numbers: a wrong frame whose number is not the next one is heard as any message with that number is, and nothing is told of it.
func TestY8Numbers(t *testing.T) {
	wrong := func(seq int, rest string) []byte {
		return textFrame(fmt.Sprint("35=1", head, seq, "|", rest))
	}
	t.Run("ahead", func(t *testing.T) {
		w := start(t)
		a := w.end("F1", framer.Text).logsOn()
		w.bytes(a.conn, wrong(4, ""))
		a.hears(api.Msg{Kind: api.ResendRequest, Begin: 2, End: 3})
		o, p := limit("o", "A1", api.Buy, 1, 100), limit("p", "A1", api.Buy, 1, 100)
		a.says(o, p)
		a.hears(happened(o, 1, 1, 1, 1, 1, 0), happened(p, 1, 1, 2, 2, 1, 0))
		if v := w.view(1); v.In != 5 || v.Waits != 0 || v.Wants != 0 {
			t.Errorf("the session is %+v", v)
		}
	})
	t.Run("low", func(t *testing.T) {
		w := start(t)
		a := w.end("F1", framer.Text).logsOn()
		w.bytes(a.conn, wrong(1, ""))
		a.hearsLast(api.Msg{Kind: api.Logout, Text: "low"})
	})
	t.Run("low and sent again", func(t *testing.T) {
		w := start(t)
		a := w.end("F1", framer.Text).logsOn()
		w.bytes(a.conn, wrong(1, "43=Y|"))
		a.hears()
		w.bytes(a.conn, wrong(2, "43=Y|122=20240103-09:00:00|"))
		a.hears(reject(2, api.TestRequest, 1, 112))
	})
}

// TestY8Waiting: what waited for the number of a wrong frame is done ahead of what is told of it.
func TestY8Waiting(t *testing.T) {
	w := start(t)
	a := w.end("F1", framer.Text).logsOn()
	o := limit("o", "A1", api.Buy, 1, 100)
	o.Seq = 3
	a.says(o)
	a.hears(api.Msg{Kind: api.ResendRequest, Begin: 2, End: 2})
	w.bytes(a.conn, textFrame("35=1"+head+"2|"))
	a.hears(happened(o, 1, 1, 1, 1, 1, 0), reject(2, api.TestRequest, 1, 112))
	w.commands(api.Command{Kind: api.DoNew, Owner: 1, O: orderOf(o)})
}

// TestY8LogoutWaits: a Logout that waited ends the connection; what is told of the wrong frame is sent when the firm asks for it.
func TestY8LogoutWaits(t *testing.T) {
	w := start(t)
	a := w.end("F1", framer.Text).logsOn()
	a.says(api.Msg{Kind: api.Logout, Seq: 3})
	a.hears(api.Msg{Kind: api.ResendRequest, Begin: 2, End: 2})
	w.bytes(a.conn, textFrame("35=1"+head+"2|"))
	a.hearsLast(api.Msg{Kind: api.Logout})
	a.heard++
	a.logsOn()
	a.says(api.Msg{Kind: api.ResendRequest, Begin: 4, End: 4})
	a.hears(reject(2, api.TestRequest, 1, 112))
}

// TestY8NotUp: behind the end of a session wrong frames are let be.
func TestY8NotUp(t *testing.T) {
	w := start(t)
	a := w.end("F1", framer.Text).logsOn()
	a.says(api.Msg{Kind: api.Logout})
	w.bytes(a.conn, textFrame("35=1"+head+"3|"))
	a.hearsLast(api.Msg{Kind: api.Logout})
	if v := w.view(1); v.In != 3 || v.Out != 3 {
		t.Errorf("the session is %+v", v)
	}
}

// spoil gives a frame in fixed places another byte at a place of its block, and the sum that goes with it.
func spoil(b []byte, at int, to byte) []byte {
	b = bytes.Clone(b)
	b[at] = to
	return append(b[:6:6], append(num.Put(nil, uint64(num.Crc(append(b[:6:6], b[10:]...))), 4), b[10:]...)...)
}

// TestY8Binary: wrong frames in fixed places are let be; their numbers are not passed over.
func TestY8Binary(t *testing.T) {
	w := start(t)
	a := w.end("F1", framer.Binary).logsOn()
	o := limit("o", "A1", api.Buy, 1, 100)
	good := frame(t, framer.Binary, a.signed(o))
	before := w.view(1)
	found := 0
	for at := 10; at < len(good); at++ {
		bad := spoil(good, at, 0xff)
		if _, err := decode(framer.Binary, bad); err == nil {
			continue // a message that may be, with another number or the like
		}
		f, _ := framer.New(framer.Binary)
		found += len(f.Feed(bad))
		w.bytes(a.conn, bad)
	}
	if found < 90 {
		t.Errorf("%d spoilt ones alone were frames", found)
	}
	a.hears()
	w.commands()
	if w.view(1) != before {
		t.Errorf("the session is %+v, was %+v", w.view(1), before)
	}
	a.says(o)
	a.hears(happened(o, 1, 1, 1, 1, 1, 0))
}
