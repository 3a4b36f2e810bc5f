package gateway

import (
	"fmt"
	"testing"

	"outcry/api"
	"outcry/bin"
	"outcry/clock"
	"outcry/engine"
	"outcry/fix"
	"outcry/framer"
	"outcry/msg"
)

const (
	second    = 1000
	minute    = 60 * second
	hour      = 60 * minute
	day       = 24 * hour
	wednesday = 1704240000000 // 20240103

	nine    = wednesday + 9*hour
	tooLate = api.MaxTime + 1
)

func turns(l ...int) []api.Turn {
	var all []api.Turn
	for n := 0; n < len(l); n += 2 {
		all = append(all, api.Turn{Minute: l[n], Phase: l[n+1]})
	}
	return all
}

// listed: ABC opens at nine by an auction; XY has lots and a band, and trades from nine on.
func listed() []api.Instrument {
	return []api.Instrument{
		{
			Symbol: "ABC", Lot: 1, Most: api.MaxQty, Steps: []api.Step{{From: 0, Tick: 1}}, Reference: 100,
			Turns: turns(480, api.PreOpen, 540, api.Trading, 1000, api.Closing, 1010, api.Closed),
		},
		{
			Symbol: "XY", Lot: 10, Most: 500, Steps: []api.Step{{From: 0, Tick: 5}}, Band: 1000, Reference: 100,
			Turns: turns(540, api.Trading, 1010, api.Closed),
		},
	}
}

func newEngine(t *testing.T) *engine.Engine {
	t.Helper()
	c, e := clock.NewCalendar()
	if e != api.OK {
		t.Fatalf("NewCalendar: %d", e)
	}
	x, e := engine.New(listed(), []api.Account{{Name: "A1"}, {Name: "A2"}, {Name: "B1"}, {Name: "Z"}}, c)
	if e != api.OK {
		t.Fatalf("engine.New: %d", e)
	}
	return x
}

// twoFirms: of the accounts GHOST is one that the engine does not know, and Z is nobody's.
func twoFirms() []Firm {
	return []Firm{{Name: "F1", Accounts: []string{"A1", "A2", "GHOST"}, Keep: 50}, {Name: "F2", Accounts: []string{"B1"}, Keep: 50}}
}

// world is a gateway, its engine, and the time.
type world struct {
	t   *testing.T
	g   *Gateway
	e   *engine.Engine
	now int64
}

// emptyWorld is one at a time at which nothing has happened yet.
func emptyWorld(t *testing.T, now int64) *world {
	t.Helper()
	e := newEngine(t)
	g, err := New("EX", twoFirms(), e)
	if g == nil || err != api.OK {
		t.Fatalf("New: %v, %d", g, err)
	}
	return &world{t: t, g: g, e: e, now: now}
}

// start is one in which both instruments trade.
func start(t *testing.T) *world {
	t.Helper()
	w := emptyWorld(t, nine)
	w.tick(nine)
	w.g.Commands()
	w.g.Events()
	return w
}

// tick lets time go on.
func (w *world) tick(now int64) {
	w.t.Helper()
	w.now = now
	expect(w.t, "Tick", w.g.Tick(now), api.OK)
}

func expect(t *testing.T, what string, got, want api.Errno) {
	t.Helper()
	if got != want {
		t.Errorf("%s: %d, want %d", what, got, want)
	}
}

// connect makes a connection; gives its number.
func (w *world) connect(kind int) int {
	w.t.Helper()
	n, e := w.g.Connect(kind, w.now)
	if n < 1 || e != api.OK {
		w.t.Fatalf("Connect(%d, %d): %d, %d", kind, w.now, n, e)
	}
	return n
}

func (w *world) bytes(conn int, b []byte) {
	w.t.Helper()
	expect(w.t, "Bytes", w.g.Bytes(conn, b, w.now), api.OK)
}

// over tells what goes out over a connection.
func (w *world) over(conn int, wantBytes string, wantEnds bool) {
	w.t.Helper()
	if b, ends, e := w.g.Out(conn); string(b) != wantBytes || ends != wantEnds || e != api.OK {
		w.t.Errorf("Out(%d): %q, %v, %d, want %q, %v", conn, b, ends, e, wantBytes, wantEnds)
	}
}

// gone: there is no such connection.
func (w *world) gone(conn int) {
	w.t.Helper()
	b, ends, e := w.g.Out(conn)
	if len(b) > 0 || ends || e != api.ErrConn {
		w.t.Errorf("Out(%d): %q, %v, %d, want no connection", conn, b, ends, e)
	}
	expect(w.t, "Bytes", w.g.Bytes(conn, nil, w.now), api.ErrConn)
	expect(w.t, "Hangup", w.g.Hangup(conn, w.now), api.ErrConn)
}

// refused: nothing goes out over it, and it ends.
func (w *world) refused(conn int) {
	w.t.Helper()
	w.over(conn, "", true)
	w.gone(conn)
}

// commands holds what the engine was handed against what it is to be, Time apart, which is now.
func (w *world) commands(want ...api.Command) {
	w.t.Helper()
	got := w.g.Commands()
	if len(got) != len(want) {
		w.t.Errorf("commands %+v, want %+v", got, want)
		return
	}
	for n := range want {
		want[n].Time = w.now
		if got[n] != want[n] {
			w.t.Errorf("command %d:\n%+v, want\n%+v", n, got[n], want[n])
		}
	}
}

// view tells how the session of a firm is.
func (w *world) view(place int) api.LinkView { return w.g.firms[place-1].View() }

func encode(kind int, m api.Msg) ([]byte, api.Errno) {
	if kind == framer.Text {
		return fix.Encode(m)
	}
	return bin.Encode(m)
}

func decode(kind int, b []byte) (api.Msg, error) {
	if kind == framer.Text {
		return fix.Decode(b)
	}
	return bin.Decode(b)
}

// end is a firm's end, which numbers what it says by hand.
type end struct {
	*world
	name  string
	kind  int
	conn  int
	said  int // the last number that it gave
	heard int // the last number that came, but of what is sent again
}

func (w *world) end(name string, kind int) *end {
	return &end{world: w, name: name, kind: kind}
}

// frame: the bytes of a message that may be.
func frame(t *testing.T, kind int, m api.Msg) []byte {
	t.Helper()
	b, e := encode(kind, m)
	if e != api.OK {
		t.Fatalf("%+v is no message: %d", m, e)
	}
	return b
}

// signed gives a message what the end's session would put there.
func (p *end) signed(m api.Msg) api.Msg {
	m.Sender, m.Target, m.Time = p.name, "EX", p.now
	if m.Seq == 0 {
		m.Seq = p.said + 1
	}
	return m
}

// says sends a message, with the next number, unless it has one.
func (p *end) says(l ...api.Msg) {
	p.t.Helper()
	for _, m := range l {
		m = p.signed(m)
		p.said = m.Seq
		p.bytes(p.conn, frame(p.t, p.kind, m))
	}
}

// messages gives what goes out to the end, and whether the connection ends.
func (p *end) messages() ([]api.Msg, bool) {
	p.t.Helper()
	b, ends, e := p.g.Out(p.conn)
	expect(p.t, "Out", e, api.OK)
	f, _ := framer.New(p.kind)
	var l []api.Msg
	for _, x := range f.Feed(b) {
		m, err := decode(p.kind, x.Bytes)
		if err != nil {
			p.t.Errorf("%q goes out: %v", x.Bytes, err)
		}
		l = append(l, m)
	}
	if f.Waits() > 0 || f.Junk() > 0 {
		p.t.Errorf("%q goes out", b)
	}
	return l, ends
}

// hears holds what goes out against messages, of which what the session puts there is asked by itself.
func (p *end) hears(want ...api.Msg) {
	p.t.Helper()
	p.hearsUpTo(false, want...)
}

// hearsLast is hears of a connection that ends.
func (p *end) hearsLast(want ...api.Msg) {
	p.t.Helper()
	p.hearsUpTo(true, want...)
	p.gone(p.conn)
}

func (p *end) hearsUpTo(last bool, want ...api.Msg) {
	p.t.Helper()
	got, ends := p.messages()
	if ends != last {
		p.t.Errorf("%s: the connection ends: %v", p.name, ends)
	}
	for n := range max(len(got), len(want)) {
		switch {
		case n >= len(got):
			p.t.Errorf("%s hears nothing, want\n%s", p.name, words(want[n]))
			continue
		case n >= len(want):
			p.t.Errorf("%s hears\n%s, want nothing", p.name, words(got[n]))
		case msg.Business(got[n]) != msg.Business(want[n]):
			p.t.Errorf("%s hears\n%s, want\n%s", p.name, words(got[n]), words(want[n]))
		}
		p.isSigned(got[n])
	}
}

// isSigned holds against what it must be what a session puts into a message; it counts the numbers.
func (p *end) isSigned(m api.Msg) {
	p.t.Helper()
	if m.Sender != "EX" || m.Target != p.name || m.Time != p.now {
		p.t.Errorf("%s hears what is not for it, or not of now: %s", p.name, words(m))
	}
	if m.Dup {
		return
	}
	p.heard++
	if m.Seq != p.heard {
		p.t.Errorf("%s hears %d, want %d: %s", p.name, m.Seq, p.heard, words(m))
	}
}

// words writes a message with the fields that are there.
func words(m api.Msg) string {
	s := msg.Name(m.Kind)
	if b, e := fix.Encode(m); e == api.OK {
		return fmt.Sprintf("%s %q", s, b)
	}
	return fmt.Sprintf("%s %+v", s, m)
}

func logon() api.Msg { return api.Msg{Kind: api.Logon, Beat: 30} }

// logsOn connects, and logs on with the next number.
func (p *end) logsOn() *end {
	p.t.Helper()
	p.conn = p.connect(p.kind)
	p.says(logon())
	p.hears(logon())
	return p
}

func limit(id, account string, side int, qty, price int64) api.Msg {
	return api.Msg{Kind: api.NewOrder, ID: id, Account: account, Symbol: "ABC", Side: side, Type: api.Limit, Life: api.Day, Qty: qty, Price: price}
}

// with gives a message with something changed.
func with(m api.Msg, change func(*api.Msg)) api.Msg {
	change(&m)
	return m
}

// happened is an Execution of an order that came by the NewOrder o: how it is, its numbers, what is left and done.
func happened(o api.Msg, exec, state, execID, orderID int, left, done int64) api.Msg {
	return api.Msg{
		Kind: api.Execution, Exec: exec, State: state, ExecID: execID, OrderID: orderID, Left: left, Done: done,
		ID: o.ID, Account: o.Account, Symbol: o.Symbol, Side: o.Side, Type: o.Type, Life: o.Life,
		Price: o.Price, Stop: o.Stop, Qty: o.Qty, Show: o.Show,
	}
}

// refusal is what is told of an order that may not come.
func refusal(o api.Msg, execID int, why api.Errno) api.Msg {
	return with(happened(o, 2, 5, execID, 0, 0, 0), func(m *api.Msg) { m.Reason = int(why) })
}

// fill is an Execution of a trade.
func fill(o api.Msg, state, execID, orderID int, left, done, qty, price int64) api.Msg {
	return with(happened(o, 3, state, execID, orderID, left, done), func(m *api.Msg) { m.LastQty, m.LastPrice = qty, price })
}

// eachKind runs a test with both kinds of frames.
func eachKind(t *testing.T, test func(t *testing.T, kind int)) {
	for kind, name := range map[int]string{framer.Text: "text", framer.Binary: "binary"} {
		t.Run(name, func(t *testing.T) { test(t, kind) })
	}
}
