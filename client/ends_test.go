package client

import (
	"fmt"
	"slices"
	"testing"

	"outcry/api"
	"outcry/bin"
	"outcry/fields"
	"outcry/fix"
	"outcry/framer"
	"outcry/msg"
	"outcry/num"
)

const (
	second  = 1000
	minute  = 60 * second
	nine    = 1704272400000 // 20240103, at 09:00
	tooLate = api.MaxTime + 1
)

func aLink() api.Link {
	return api.Link{Own: "FIRM", Peer: "EX", Beat: 30, Calls: true, Keep: 50}
}

func encode(kind int, m api.Msg) ([]byte, api.Errno) {
	if kind == framer.Text {
		return fix.Encode(m)
	}
	return bin.Encode(m)
}

func decode(kind int, b []byte) (api.Msg, error) {
	if kind == framer.Text {
		return fix.Decode(b)
	}
	return bin.Decode(b)
}

func expect(t *testing.T, what string, got, want api.Errno) {
	t.Helper()
	if got != want {
		t.Errorf("%s: %d, want %d", what, got, want)
	}
}

// eachKind runs a test with both kinds of frames.
func eachKind(t *testing.T, test func(t *testing.T, kind int)) {
	for kind, name := range map[int]string{framer.Text: "text", framer.Binary: "binary"} {
		t.Run(name, func(t *testing.T) { test(t, kind) })
	}
}

// desk is a client, the time, and a peer that numbers what it says by hand.
type desk struct {
	*Client
	t    *testing.T
	kind int
	now  int64
	said int // the last number that the peer gave
	out  int // the last number that went out, but of what is sent again
}

func newDesk(t *testing.T, kind int) *desk {
	t.Helper()
	c, e := New(aLink(), kind)
	if c == nil || e != api.OK {
		t.Fatalf("New: %v, %d", c, e)
	}
	return &desk{Client: c, t: t, kind: kind, now: nine}
}

func logon() api.Msg { return api.Msg{Kind: api.Logon, Beat: 30} }

// start is a desk whose client has logged on.
func start(t *testing.T, kind int) *desk {
	t.Helper()
	d := newDesk(t, kind)
	d.logsOn()
	return d
}

func (d *desk) logsOn() {
	d.t.Helper()
	expect(d.t, "Connect", d.Connect(d.now), api.OK)
	d.says(logon())
	d.goesOut(logon())
	if s := d.View().State; s != api.Up {
		d.t.Fatalf("the state is %d", s)
	}
}

// drops ends the connection; what has not gone out is lost.
func (d *desk) drops() {
	d.t.Helper()
	d.out = d.View().Out - 1
	expect(d.t, "Drop", d.Drop(d.now), api.OK)
}

// signed gives a message what the peer's session would put there.
func (d *desk) signed(m api.Msg) api.Msg {
	m.Sender, m.Target, m.Time = "EX", "FIRM", d.now
	if m.Seq == 0 {
		d.said++
		m.Seq = d.said
	}
	return m
}

// frame: the bytes of a message that may be.
func frame(t *testing.T, kind int, m api.Msg) []byte {
	t.Helper()
	b, e := encode(kind, m)
	if e != api.OK {
		t.Fatalf("%+v is no message: %d", m, e)
	}
	return b
}

// refused gives a frame that is found, and that nobody takes as a message.
func refused(t *testing.T, kind int, m api.Msg) []byte {
	t.Helper()
	b := frame(t, kind, m)
	if kind == framer.Text {
		l, _ := fields.Split(b)
		b, _ = fields.Join(append(l, api.Field{Tag: 9000, Value: "x"}))
	} else {
		b = checked(b, 10, '-') // in the Sender
	}
	f, _ := framer.New(kind)
	if _, err := decode(kind, b); err == nil || len(f.Feed(b)) != 1 {
		t.Fatalf("%q: %v", b, err)
	}
	return b
}

// checked changes a byte of a frame in fixed places, so that the sum is right.
func checked(b []byte, at int, to byte) []byte {
	b = slices.Clone(b)
	b[at] = to
	return slices.Concat(b[:6], num.Put(nil, uint64(num.Crc(slices.Concat(b[:6], b[10:]))), 4), b[10:])
}

// says lets the peer say something, with the next numbers; gives it as it was said.
func (d *desk) says(l ...api.Msg) []api.Msg {
	d.t.Helper()
	var all []api.Msg
	for _, m := range l {
		m = d.signed(m)
		d.bytes(frame(d.t, d.kind, m))
		all = append(all, m)
	}
	return all
}

func (d *desk) bytes(b []byte) {
	d.t.Helper()
	expect(d.t, "Bytes", d.Bytes(b, d.now), api.OK)
}

// goesOut holds what goes out against messages, of which what the session puts there is asked by itself.
func (d *desk) goesOut(want ...api.Msg) {
	d.t.Helper()
	got, ends := messages(d.t, d.Client, d.kind)
	if ends || len(got) != len(want) {
		d.t.Errorf("%+v goes out, and the end: %v, want %+v", got, ends, want)
		return
	}
	for n, m := range got {
		if msg.Business(m) != msg.Business(want[n]) {
			d.t.Errorf("%+v goes out, want %+v", m, want[n])
		}
		if m.Sender != "FIRM" || m.Target != "EX" || m.Time != d.now {
			d.t.Errorf("%+v goes out, at %d", m, d.now)
		}
		if m.Dup {
			continue
		}
		d.out++
		if m.Seq != d.out {
			d.t.Errorf("%+v goes out, want the number %d", m, d.out)
		}
	}
}

// messages gives what goes out from a client, and whether the connection ends.
func messages(t *testing.T, c *Client, kind int) ([]api.Msg, bool) {
	t.Helper()
	b, ends := c.Out()
	f, _ := framer.New(kind)
	var l []api.Msg
	for _, x := range f.Feed(b) {
		m, err := decode(kind, x.Bytes)
		if err != nil {
			t.Errorf("%q goes out: %v", x.Bytes, err)
		}
		l = append(l, m)
	}
	if f.Waits() > 0 || f.Junk() > 0 {
		t.Errorf("%q goes out", b)
	}
	return l, ends
}

// knows holds the views of all orders against what they are to be.
func (d *desk) knows(want ...api.View) {
	d.t.Helper()
	if got := d.Orders(); !slices.Equal(got, want) {
		d.t.Errorf("Orders: %+v, want %+v", got, want)
	}
}

// reported holds what was heard since the last time against what it is to be, field by field.
func (d *desk) reported(want ...api.Msg) {
	d.t.Helper()
	if got := d.Reports(); !slices.Equal(got, want) {
		d.t.Errorf("Reports: %+v, want %+v", got, want)
	}
}

// newOrder is a NewOrder that may be: sell 100 of ABC at 1.50.
func newOrder(id string) api.Msg {
	return api.Msg{Kind: api.NewOrder, ID: id, Account: "ACC", Symbol: "ABC", Side: api.Sell, Type: api.Limit, Life: api.Day, Price: 15000, Qty: 100}
}

// sends sends orders of these names.
func (d *desk) sends(ids ...string) {
	d.t.Helper()
	for _, id := range ids {
		expect(d.t, "Order "+id, d.Order(newOrder(id), d.now), api.OK)
	}
}

// happened is an Execution of an order like those of newOrder.
func happened(id string, exec, state int, left, done int64) api.Msg {
	return api.Msg{Kind: api.Execution, ID: id, Account: "ACC", Symbol: "ABC", Side: api.Sell, Qty: 100, OrderID: 7, ExecID: 1, Exec: exec, State: state, Left: left, Done: done}
}

// trade is an Execution of one.
func trade(id string, state int, left, done, qty, price int64) api.Msg {
	m := happened(id, 3, state, left, done)
	m.LastQty, m.LastPrice = qty, price
	return m
}

// renamed is an Execution by which an order gets another name.
func renamed(was, id string, left, done int64) api.Msg {
	m := happened(id, 5, 1, left, done)
	m.OrigID = was
	return m
}

// with gives a message with something changed.
func with(m api.Msg, change func(*api.Msg)) api.Msg {
	change(&m)
	return m
}

// fresh is the view of an order of which nothing was heard yet.
func fresh(id string) api.View { return api.View{Name: id, Left: 100} }

// kinds gives a message of each kind that may be, with the fields that it must have and some more, but for what the session puts there.
func kinds() []api.Msg {
	return []api.Msg{
		{Kind: api.Heartbeat, TestID: "t"},
		{Kind: api.TestRequest, TestID: "t"},
		{Kind: api.ResendRequest, Begin: 1},
		{Kind: api.Reject, RefSeq: 1, Text: "no"},
		{Kind: api.SequenceReset, Fill: true, Next: 9},
		{Kind: api.Logout, Text: "bye"},
		logon(),
		newOrder("o"),
		{Kind: api.CancelOrder, ID: "c", OrigID: "o", Symbol: "ABC", Side: api.Buy},
		{Kind: api.ReplaceOrder, ID: "r", OrigID: "o", Symbol: "ABC", Side: api.Buy, Price: 5, Qty: 7},
		{Kind: api.MassCancel, ID: "m", Account: "ACC"},
		{Kind: api.AskStatus, ID: "o", Symbol: "ABC", Side: api.Buy},
		with(trade("o", 2, 60, 40, 40, 15000), func(m *api.Msg) { m.Type, m.Life, m.Price, m.Text = api.Limit, api.PostOnly, 15000, "so" }),
		{Kind: api.CancelReject, ID: "c", OrigID: "o", Reason: 121, State: 5, Text: "no"},
		{Kind: api.MassReport, ID: "m", Symbol: "ABC", Count: 3},
		{Kind: api.Refused, RefSeq: 2, RefKind: 8, Reason: 1, Text: "tag 54"},
		{Kind: api.Status, Symbol: "ABC", Phase: api.Trading},
	}
}

// all tells in words what a client answers about itself. (What was reported is taken by that.)
func all(c *Client) string {
	return fmt.Sprintf("%+v %+v %+v %+v", c.Orders(), c.Reports(), c.View(), c.Skipped())
}
