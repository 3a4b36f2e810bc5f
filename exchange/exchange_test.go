package exchange

import (
	"bytes"
	"encoding/binary"
	"fmt"
	"math"
	"slices"
	"strings"
	"testing"

	"outcry/api"
	"outcry/bin"
	"outcry/client"
	"outcry/fix"
	"outcry/framer"
	"outcry/gateway"
	"outcry/tape"
)

const (
	second = 1000
	minute = 60 * second
	hour   = 60 * minute
	day    = 24 * hour
	monday = 1709510400000 // 20240304

	nine    = monday + 9*hour
	tooLate = api.MaxTime + 1
)

func turns(l ...int) []api.Turn {
	var all []api.Turn
	for n := 0; n < len(l); n += 2 {
		all = append(all, api.Turn{Minute: l[n], Phase: l[n+1]})
	}
	return all
}

func wholeDay() []api.Turn {
	return turns(480, api.PreOpen, 540, api.Trading, 1000, api.Closing, 1010, api.Closed)
}

// theSetup: that of DOC.md's examples.
func theSetup() Setup {
	return Setup{
		Name: "X",
		Instruments: []api.Instrument{{
			Symbol: "ABC", Lot: 1, Most: api.MaxQty, Steps: []api.Step{{From: 0, Tick: 1}}, Reference: 1000,
			Turns: wholeDay(), Maker: -100, Taker: 200,
		}},
		Accounts: []api.Account{{Name: "A1"}, {Name: "A2"}},
		Firms:    []gateway.Firm{{Name: "F1", Accounts: []string{"A1"}, Keep: 50}, {Name: "F2", Accounts: []string{"A2"}, Keep: 50}},
	}
}

// twoListed: XY has other fees than ABC.
func twoListed() Setup {
	s := theSetup()
	xy := s.Instruments[0]
	xy.Symbol, xy.Maker, xy.Taker = "XY", 30, 70
	s.Instruments = append(s.Instruments, xy)
	return s
}

func open(t *testing.T, s Setup, tape []byte) *Exchange {
	t.Helper()
	x, e := Open(s, tape)
	if x == nil || e != api.OK {
		t.Fatalf("Open: %v, %d", x, e)
	}
	return x
}

func expect(t *testing.T, what string, got, want api.Errno) {
	t.Helper()
	if got != want {
		t.Errorf("%s: %d, want %d", what, got, want)
	}
}

// taped gives the tape of commands.
func taped(t *testing.T, l ...api.Command) []byte {
	t.Helper()
	reel := tape.New()
	for _, c := range l {
		expect(t, "tape.Append", reel.Append(c), api.OK)
	}
	return reel.Bytes()
}

// commands gives those of a tape.
func commands(t *testing.T, b []byte) []api.Command {
	t.Helper()
	reel, size, e := tape.Open(b)
	if e != api.OK || size != len(b) {
		t.Fatalf("the tape %x: %d of %d bytes, %d", b, size, len(b), e)
	}
	var l []api.Command
	for n := range reel.Len() {
		c, _ := reel.Command(n)
		l = append(l, c)
	}
	return l
}

// timeOf gives the time that stands in a packet.
func timeOf(packet []byte) int64 {
	n, _ := binary.Varint(packet[7:])
	return n
}

// numberOf gives the number that stands in a packet.
func numberOf(packet []byte) int { return int(binary.BigEndian.Uint32(packet)) }

func samePackets(a, b [][]byte) bool { return slices.EqualFunc(a, b, bytes.Equal) }

// desk is a firm's client, and its connection.
type desk struct {
	*client.Client
	kind int
	conn int // 0: there is none
}

// world is an exchange, and the time.
type world struct {
	t   *testing.T
	x   *Exchange
	now int64
}

// morning is one at nine, when all instruments trade.
func morning(t *testing.T, s Setup) *world {
	t.Helper()
	w := &world{t: t, x: open(t, s, nil), now: nine}
	w.tick(nine)
	w.x.Packets()
	return w
}

func (w *world) tick(now int64) {
	w.t.Helper()
	w.now = now
	expect(w.t, "Tick", w.x.Tick(now), api.OK)
}

// connect makes a connection; gives its number.
func (w *world) connect(kind int) int {
	w.t.Helper()
	n, e := w.x.Connect(kind, w.now)
	if n < 1 || e != api.OK {
		w.t.Fatalf("Connect: %d, %d", n, e)
	}
	return n
}

// dial connects a firm once more.
func (w *world) dial(d *desk) {
	w.t.Helper()
	d.conn = w.connect(d.kind)
	expect(w.t, "the client's Connect", d.Connect(w.now), api.OK)
}

// join lets a firm log on.
func (w *world) join(name string, kind int) *desk {
	w.t.Helper()
	c, e := client.New(api.Link{Own: name, Peer: "X", Beat: 30, Calls: true, Keep: 50}, kind)
	expect(w.t, "client.New", e, api.OK)
	d := &desk{Client: c, kind: kind}
	w.dial(d)
	w.talk(d)
	if d.View().State != api.Up {
		w.t.Fatalf("%s is not logged on: %+v", name, d.View())
	}
	return d
}

// joined lets both firms log on, in both protocols.
func (w *world) joined() (*desk, *desk) {
	w.t.Helper()
	return w.join("F1", framer.Text), w.join("F2", framer.Binary)
}

// talk lets all come that firms and the exchange have to say.
func (w *world) talk(l ...*desk) {
	w.t.Helper()
	for quiet := false; !quiet; {
		quiet = true
		for _, d := range l {
			up, _ := d.Out()
			expect(w.t, "Bytes", w.x.Bytes(d.conn, up, w.now), api.OK)
			down, ends, e := w.x.Out(d.conn)
			if ends || e != api.OK {
				w.t.Fatalf("Out: %v, %d", ends, e)
			}
			expect(w.t, "the client's Bytes", d.Bytes(down, w.now), api.OK)
			quiet = quiet && len(up) == 0 && len(down) == 0
		}
	}
}

// sends lets a firm send orders, which come.
func (w *world) sends(d *desk, l ...api.Msg) {
	w.t.Helper()
	for _, m := range l {
		expect(w.t, "Order", d.Order(m, w.now), api.OK)
	}
	w.talk(d)
}

func limit(id, account string, side int, qty, price int64) api.Msg {
	return api.Msg{Kind: api.NewOrder, ID: id, Account: account, Symbol: "ABC", Side: side, Type: api.Limit, Life: api.Day, Price: price, Qty: qty}
}

func with(m api.Msg, change func(m *api.Msg)) api.Msg {
	change(&m)
	return m
}

// newOrder is a command by which an order comes.
func newOrder(at int64, owner int, name, account string, side int, qty, price int64) api.Command {
	o := api.Order{Name: name, Account: account, Symbol: "ABC", Side: side, Type: api.Limit, Life: api.Day, Price: price, Qty: qty}
	return api.Command{Kind: api.DoNew, Time: at, Owner: owner, O: o}
}

func (w *world) depth(symbol string, side int, want ...api.Level) {
	w.t.Helper()
	if got, e := w.x.Depth(symbol, side); !slices.Equal(got, want) || e != api.OK {
		w.t.Errorf("Depth(%q, %d): %v, %d, want %v", symbol, side, got, e, want)
	}
}

func (w *world) balance(account, symbol string, qty, cash int64) {
	w.t.Helper()
	if q, c := w.x.Balance(account, symbol); q != qty || c != cash {
		w.t.Errorf("Balance(%q, %q): %d, %d, want %d, %d", account, symbol, q, c, qty, cash)
	}
}

func (w *world) closes(want ...api.Booking) {
	w.t.Helper()
	if got := w.x.Close(); !slices.Equal(got, want) {
		w.t.Errorf("Close: %+v, want %+v", got, want)
	}
}

// wrongs: what Open refuses, in the order in which it asks.
func wrongs() []struct {
	what   string
	step   int
	change func(s *Setup)
	want   api.Errno
} {
	return []struct {
		what   string
		step   int
		change func(s *Setup)
		want   api.Errno
	}{
		{"no date", 0, func(s *Setup) { s.Holidays = []int{20240305, 20240230} }, api.ErrDate},
		{"too many holidays", 0, func(s *Setup) { s.Holidays = slices.Repeat([]int{20240305}, 1001) }, api.ErrMany},
		{"no instruments", 1, func(s *Setup) { s.Instruments = nil }, api.ErrListing},
		{"one twice", 1, func(s *Setup) { s.Instruments = append(s.Instruments, s.Instruments[0]) }, api.ErrListing},
		{"nine", 1, func(s *Setup) { s.Instruments = nineInstruments() }, api.ErrListing},
		{"no symbol", 1, func(s *Setup) { s.Instruments[0].Symbol = "abc" }, api.ErrListing},
		{"no lot", 1, func(s *Setup) { s.Instruments[0].Lot = 0 }, api.ErrListing},
		{"fees below 0", 1, func(s *Setup) { s.Instruments[0].Maker = -201 }, api.ErrListing},
		{"an account twice", 1, func(s *Setup) { s.Accounts = append(s.Accounts, s.Accounts[0]) }, api.ErrKnown},
		{"a limit below 0", 1, func(s *Setup) { s.Accounts[1].Order = -1 }, api.ErrArg},
		{"17 accounts", 1, func(s *Setup) { s.Accounts = make([]api.Account, 17) }, api.ErrMany},
		{"no name", 2, func(s *Setup) { s.Name = "" }, api.ErrArg},
		{"its own name", 2, func(s *Setup) { s.Firms[1].Name = "X" }, api.ErrArg},
		{"no firms", 2, func(s *Setup) { s.Firms = nil }, api.ErrArg},
		{"nothing is kept", 2, func(s *Setup) { s.Firms[0].Keep = 0 }, api.ErrArg},
		{"one account of two firms", 2, func(s *Setup) { s.Firms[1].Accounts[0] = "A1" }, api.ErrArg},
	}
}

func nineInstruments() []api.Instrument {
	var l []api.Instrument
	for n := range 9 {
		i := theSetup().Instruments[0]
		i.Symbol = fmt.Sprint("S", n)
		l = append(l, i)
	}
	return l
}

func TestZ1Refused(t *testing.T) {
	refused := func(what string, s Setup, b []byte, want api.Errno) {
		t.Helper()
		if x, e := Open(s, b); x != nil || e != want {
			t.Errorf("%s: %v, %d, want %d", what, x, e, want)
		}
	}
	noTapes := [][]byte{{0}, []byte("OTA"), []byte("what"), []byte("otap"), []byte("\x00OTAP"), bytes.Repeat([]byte{0xff}, 1000)}
	for _, b := range noTapes {
		refused(fmt.Sprintf("the tape %.20q", b), theSetup(), b, api.ErrTape)
	}
	refused("nothing at all", Setup{}, nil, api.ErrListing)
	for _, one := range wrongs() {
		s := theSetup()
		one.change(&s)
		refused(one.what, s, nil, one.want)
		refused(one.what+", and no tape", s, noTapes[0], one.want)
		refused(one.what+", and a tape", s, taped(t, api.Command{Kind: api.DoTime, Time: nine}), one.want)
		for _, other := range wrongs() {
			if other.step <= one.step {
				continue
			}
			s := theSetup()
			other.change(&s)
			one.change(&s)
			refused(one.what+", and "+other.what, s, noTapes[0], one.want)
		}
	}
}

func TestZ1New(t *testing.T) {
	for _, b := range [][]byte{nil, {}, []byte("OTAP"), []byte("OTAP and what no record is")} {
		w := &world{t: t, x: open(t, twoListed(), b), now: nine}
		if got := w.x.Tape(); string(got) != "OTAP" {
			t.Errorf("%q: the tape %x", b, got)
		}
		if l := w.x.Packets(); len(l) > 0 {
			t.Errorf("%q: packets %x", b, l)
		}
		if l := w.x.Again(math.MinInt, math.MaxInt); len(l) > 0 {
			t.Errorf("%q: Again: %x", b, l)
		}
		for _, symbol := range []string{"ABC", "XY"} {
			w.depth(symbol, api.Buy)
			w.depth(symbol, api.Sell)
		}
		for _, account := range []string{"", "A1", "A2", "A3"} {
			w.balance(account, "ABC", 0, 0)
		}
		w.closes()
		w.tick(nine)
		w.joined()
	}
}

// TestZ1Holidays: on one of them nothing opens.
func TestZ1Holidays(t *testing.T) {
	for _, closed := range []bool{false, true} {
		s := theSetup()
		if closed {
			s.Holidays = []int{20240301, 20240304}
		}
		w := morning(t, s)
		a, _ := w.joined()
		w.sends(a, limit("s", "A1", api.Sell, 10, 1000))
		if l, _ := w.x.Depth("ABC", api.Sell); (len(l) == 0) != closed {
			t.Errorf("closed: %v, and %v for sale", closed, l)
		}
	}
}

// TestZ1Played: what is right of a tape is done, and nobody is told.
func TestZ1Played(t *testing.T) {
	l := []api.Command{
		{Kind: api.DoTime, Time: nine},
		newOrder(nine+1, 1, "s", "A1", api.Sell, 10, 1000),
		newOrder(nine+2, 2, "b", "A2", api.Buy, 4, 1001),
		newOrder(nine+3, 2, "c", "A2", api.Buy, 4, 999),
		{Kind: api.DoHalt, Time: nine + 4, O: api.Order{Symbol: "ABC"}},
	}
	b := taped(t, l...)
	for size := 4; size <= len(b); size++ {
		w := &world{t: t, x: open(t, theSetup(), b[:size:size]), now: nine + second}
		got := w.x.Tape()
		done := commands(t, got)
		if !bytes.HasPrefix(b[:size], got) || !slices.Equal(done, l[:len(done)]) || len(done) < len(l) && len(taped(t, l[:len(done)+1]...)) <= size {
			t.Fatalf("of %d bytes: %+v", size, done)
		}
		switch {
		case len(done) == 2:
			w.depth("ABC", api.Sell, api.Level{Price: 1000, Qty: 10, Orders: 1})
			w.balance("A1", "ABC", 0, 0)
		case len(done) > 2:
			w.depth("ABC", api.Sell, api.Level{Price: 1000, Qty: 6, Orders: 1})
			w.balance("A1", "ABC", -4, 4001)
			w.balance("A2", "ABC", 4, -4000)
			w.balance("", "ABC", 0, -1)
		}
		if p := w.x.Packets(); len(p) > 0 {
			t.Errorf("of %d bytes: packets %x", size, p)
		}
		if kept := w.x.Again(1, 99); len(kept) != len(done) {
			t.Errorf("of %d commands: %d packets are kept", len(done), len(kept))
		}
	}
}

// TestZ1SpoiltTape: of a tape in which a byte is wrong the records ahead of it are done.
func TestZ1SpoiltTape(t *testing.T) {
	l := []api.Command{{Kind: api.DoTime, Time: nine}, newOrder(nine+1, 1, "s", "A1", api.Sell, 10, 1000), newOrder(nine+2, 2, "b", "A2", api.Buy, 4, 1001)}
	b := taped(t, l...)
	for at := range b {
		spoilt := slices.Clone(b)
		spoilt[at] ^= 0x41
		x, e := Open(theSetup(), spoilt)
		if at < 4 {
			if x != nil || e != api.ErrTape {
				t.Errorf("the byte %d: %v, %d", at, x, e)
			}
			continue
		}
		whole := 0
		for whole < len(l) && len(taped(t, l[:whole+1]...)) <= at {
			whole++
		}
		if got := commands(t, x.Tape()); !slices.Equal(got, l[:whole]) {
			t.Errorf("the byte %d: %+v", at, got)
		}
	}
}

// TestZ1SessionsAnew: firms are told nothing of what was played, and their sessions begin anew; what is live is theirs.
func TestZ1SessionsAnew(t *testing.T) {
	w := morning(t, theSetup())
	a, b := w.joined()
	w.sends(a, limit("s", "A1", api.Sell, 10, 1000))
	w.sends(b, limit("b", "A2", api.Buy, 4, 1000))
	w.x = open(t, theSetup(), w.x.Tape())
	a, b = w.joined()
	if l := slices.Concat(a.Reports(), b.Reports()); len(l) > 0 {
		t.Errorf("reports: %+v", l)
	}
	if v := a.View(); v.In != 2 || v.Out != 2 {
		t.Errorf("the session %+v", v)
	}
	w.sends(a, limit("s", "A1", api.Sell, 1, 1000))
	w.sends(b, limit("b2", "A2", api.Buy, 1, 1000))
	w.talk(a, b)
	l := a.Reports()
	if len(l) != 2 || l[0].Exec != 2 || l[0].Reason != int(api.ErrKnown) || l[0].ExecID != 1 || l[1].ID != "s" || l[1].Exec != 3 || l[1].Done != 5 {
		t.Errorf("reports: %+v", l)
	}
}

// TestZ2Answers: what the gateway answers, in its order.
func TestZ2Answers(t *testing.T) {
	x := open(t, theSetup(), nil)
	for _, c := range []struct {
		kind int
		now  int64
	}{{0, nine}, {3, nine}, {-1, nine}, {math.MaxInt, nine}, {framer.Text, -1}, {framer.Text, tooLate}, {framer.Binary, math.MinInt64}, {framer.Binary, math.MaxInt64}} {
		if n, e := x.Connect(c.kind, c.now); n != 0 || e != api.ErrArg {
			t.Errorf("Connect(%d, %d): %d, %d", c.kind, c.now, n, e)
		}
	}
	for n := 1; n <= 8; n++ {
		if got, e := x.Connect(1+n%2, 0); got != n || e != api.OK {
			t.Errorf("Connect: %d, %d, want %d", got, e, n)
		}
	}
	if n, e := x.Connect(framer.Text, 0); n != 0 || e != api.ErrMany {
		t.Errorf("the ninth: %d, %d", n, e)
	}
	for _, conn := range []int{0, -1, 9, math.MaxInt, math.MinInt} {
		expect(t, "Bytes of no connection", x.Bytes(conn, nil, 0), api.ErrConn)
		expect(t, "Hangup of no connection", x.Hangup(conn, 0), api.ErrConn)
		if b, ends, e := x.Out(conn); len(b) > 0 || ends || e != api.ErrConn {
			t.Errorf("Out(%d): %x, %v, %d", conn, b, ends, e)
		}
	}
	for _, now := range []int64{-1, tooLate, math.MinInt64, math.MaxInt64} {
		expect(t, "Bytes", x.Bytes(1, nil, now), api.ErrArg)
		expect(t, "Bytes of no connection", x.Bytes(9, nil, now), api.ErrArg)
		expect(t, "Hangup", x.Hangup(1, now), api.ErrArg)
		expect(t, "Hangup of no connection", x.Hangup(9, now), api.ErrArg)
		expect(t, "Tick", x.Tick(now), api.ErrArg)
	}
	if b := x.Tape(); len(b) != 4 {
		t.Errorf("what was refused is on the tape: %x", b)
	}
	expect(t, "Bytes", x.Bytes(1, []byte("junk"), 0), api.OK)
	expect(t, "Hangup", x.Hangup(1, 0), api.OK)
	expect(t, "Hangup once more", x.Hangup(1, 0), api.ErrConn)
	if n, e := x.Connect(framer.Text, 0); n != 9 || e != api.OK {
		t.Errorf("Connect: %d, %d", n, e)
	}
	if b, ends, e := x.Out(2); len(b) > 0 || ends || e != api.OK {
		t.Errorf("Out of one that nobody logged on over: %x, %v, %d", b, ends, e)
	}
	expect(t, "Tick", x.Tick(10000), api.OK) // nobody has logged on over it for so long
	if b, ends, e := x.Out(2); len(b) > 0 || !ends || e != api.OK {
		t.Errorf("Out of one that is refused: %x, %v, %d", b, ends, e)
	}
}

// TestZ2Done: commands and events are taken by the exchange in the call that has them done, whichever it is.
func TestZ2Done(t *testing.T) {
	w := morning(t, theSetup())
	a := w.join("F1", framer.Text)
	w.sends(a, limit("s", "A1", api.Sell, 10, 1000))
	if c, e := w.x.Commands(), w.x.Events(); len(c) > 0 || len(e) > 0 {
		t.Errorf("the gateway has still %+v, %+v", c, e)
	}
	expect(t, "Order", a.Order(limit("t", "A1", api.Sell, 10, 1001), w.now), api.OK)
	expect(t, "Order", a.Order(limit("u", "A1", api.Sell, 10, 1002), w.now), api.OK)
	b, _ := a.Out()
	w.x.Packets()
	was := len(commands(t, w.x.Tape()))
	expect(t, "Bytes", w.x.Bytes(a.conn, b, w.now), api.OK)
	if l := commands(t, w.x.Tape()); len(l) != was+2 || l[was].O.Name != "t" || l[was+1].O.Name != "u" || l[was].Owner != 1 {
		t.Errorf("the tape: %+v", l)
	}
	if l := w.x.Packets(); len(l) != 1 { // one Tell of all events of the call
		t.Errorf("packets: %x", l)
	}
	w.x.Tick(w.now)
	w.x.Hangup(a.conn, w.now)
	if l := commands(t, w.x.Tape()); len(l) != was+3 || l[was+2] != (api.Command{Kind: api.DoTime, Time: w.now}) {
		t.Errorf("the tape: %+v", l)
	}
}

// TestZ5WithoutCommand: what makes no command, or is refused ahead of one, is not on the tape.
func TestZ5WithoutCommand(t *testing.T) {
	w := morning(t, theSetup())
	a, _ := w.joined()
	was := w.x.Tape()
	w.sends(a, limit("o", "A2", api.Buy, 1, 900), limit("p", "NOBODY", api.Buy, 1, 900))
	for _, m := range []api.Msg{{Kind: api.MassCancel, ID: "m", Account: "A2"}, {Kind: api.AskStatus, ID: "o", Symbol: "ABC", Side: api.Buy}} {
		expect(t, "Send", a.Send(m, w.now), api.OK)
	}
	w.talk(a)
	if l := a.Reports(); len(l) != 4 || l[0].Exec != 2 || l[0].Reason != 161 || l[2].Kind != api.MassReport || l[3].Kind != api.Refused {
		t.Errorf("reports: %+v", l)
	}
	if got := w.x.Tape(); !bytes.Equal(got, was) {
		t.Errorf("the tape has %+v", commands(t, got)[1:])
	}
	// What the engine refuses was a command all the same.
	w.sends(a, limit("q", "A1", api.Buy, 1, 1), with(limit("r", "A1", api.Buy, 1, 1), func(m *api.Msg) { m.Symbol = "NONE" }))
	if l := commands(t, w.x.Tape()); len(l) != 3 || l[2].O.Symbol != "NONE" {
		t.Errorf("the tape: %+v", l)
	}
}

// TestZ5Bytes: the tape, byte by byte.
func TestZ5Bytes(t *testing.T) {
	w := morning(t, theSetup())
	a, b := w.joined()
	w.sends(a, limit("s", "A1", api.Sell, 10, 1000))
	w.now++
	w.sends(b, limit("b", "A2", api.Buy, 4, 1001))
	expect(t, "Cancel", a.Cancel("s", "c", w.now), api.OK)
	w.talk(a)
	w.tick(nine + second)
	want := taped(t,
		api.Command{Kind: api.DoTime, Time: nine},
		newOrder(nine, 1, "s", "A1", api.Sell, 10, 1000),
		newOrder(nine+1, 2, "b", "A2", api.Buy, 4, 1001),
		api.Command{Kind: api.DoCancel, Time: nine + 1, Owner: 1, Name: "s", O: api.Order{Name: "c", Symbol: "ABC", Side: api.Sell}},
		api.Command{Kind: api.DoTime, Time: nine + second},
	)
	if got := w.x.Tape(); !bytes.Equal(got, want) {
		t.Errorf("the tape\n%x, want\n%x", got, want)
	}
	// Commands behind those that were played stand behind them.
	w.x = open(t, theSetup(), want)
	w.tick(nine + 2*second)
	if got := w.x.Tape(); !bytes.HasPrefix(got, want) || len(commands(t, got)) != 6 {
		t.Errorf("the tape\n%x, want\n%x and one more", got, want)
	}
}

// TestZ6 asks for what there is, and for what there is not.
func TestZ6(t *testing.T) {
	w := morning(t, twoListed())
	a, b := w.joined()
	in := func(symbol string) func(m *api.Msg) { return func(m *api.Msg) { m.Symbol = symbol } }
	w.sends(a, limit("1", "A1", api.Sell, 10, 1000), limit("2", "A1", api.Sell, 5, 1000), limit("3", "A1", api.Sell, 7, 1002))
	w.sends(a, with(limit("4", "A1", api.Buy, 1000, 50), in("XY")))
	w.sends(b, limit("1", "A2", api.Buy, 9, 990))
	w.depth("ABC", api.Sell, api.Level{Price: 1000, Qty: 15, Orders: 2}, api.Level{Price: 1002, Qty: 7, Orders: 1})
	w.depth("ABC", api.Buy, api.Level{Price: 990, Qty: 9, Orders: 1})
	w.depth("XY", api.Buy, api.Level{Price: 50, Qty: 1000, Orders: 1})
	w.depth("XY", api.Sell)
	for _, side := range []int{0, 3, -1, math.MaxInt, math.MinInt} {
		w.depth("ABC", side)
	}
	for _, symbol := range []string{"", "NONE", "abc", "ABC ", strings.Repeat("A", 100000)} {
		if l, e := w.x.Depth(symbol, api.Buy); len(l) > 0 || e != api.ErrSymbol {
			t.Errorf("Depth(%.20q): %v, %d", symbol, l, e)
		}
	}
	w.sends(b, limit("2", "A2", api.Buy, 12, 1002), with(limit("3", "A2", api.Sell, 400, 49), in("XY")))
	// ABC: trades of 10000 and of 2000: the taker's fees are 2 and 0 (of 0.4), the maker's -1 and -1 (of -0.2).
	// XY: one of 20000: the seller takes: 1 (of 1.4), the maker's is 0 (of 0.6).
	w.balance("A1", "ABC", -12, 12000+2-20000)
	w.balance("A1", "XY", 400, 12000+2-20000)
	w.balance("A2", "ABC", 12, -12000-2+20000-1)
	w.balance("A2", "XY", -400, -12000-2+20000-1)
	w.balance("", "ABC", 0, 1)
	w.balance("", "NONE", 0, 1)
	w.balance("A1", "", 0, 12000+2-20000)
	w.balance("A9", "ABC", 0, 0)
	w.balance(strings.Repeat("\xff", 100000), "ABC", 0, 0)
}

// TestZ7: each day what it has booked; balances stay.
func TestZ7(t *testing.T) {
	w := morning(t, twoListed())
	a, b := w.joined()
	w.closes()
	xy := func(m *api.Msg) { m.Symbol = "XY" }
	w.sends(a, limit("1", "A1", api.Sell, 10, 1000), with(limit("2", "A1", api.Buy, 1000, 50), xy))
	w.sends(b, limit("1", "A2", api.Buy, 10, 1000), with(limit("2", "A2", api.Sell, 400, 50), xy))
	w.closes(
		api.Booking{Symbol: "ABC", Fee: -1}, api.Booking{Symbol: "XY", Fee: -1},
		api.Booking{Account: "A1", Symbol: "ABC", Qty: -10, Cash: 10000, Fee: -1}, api.Booking{Account: "A1", Symbol: "XY", Qty: 400, Cash: -20000},
		api.Booking{Account: "A2", Symbol: "ABC", Qty: 10, Cash: -10000, Fee: 2}, api.Booking{Account: "A2", Symbol: "XY", Qty: -400, Cash: 20000, Fee: 1},
	)
	w.closes()
	w.sends(a, limit("3", "A1", api.Sell, 1, 1000))
	w.sends(b, limit("3", "A2", api.Buy, 1, 1000))
	w.balance("A1", "ABC", -11, 11000+2-20000)
	w.closes(
		api.Booking{Symbol: "ABC", Fee: 1},
		api.Booking{Account: "A1", Symbol: "ABC", Qty: -1, Cash: 1000, Fee: -1},
		api.Booking{Account: "A2", Symbol: "ABC", Qty: 1, Cash: -1000},
	)
	w.balance("A1", "ABC", -11, 11000+2-20000)
	w.balance("", "ABC", 0, 1)
	// What was played belongs to the day that is not closed.
	w.x = open(t, twoListed(), w.x.Tape())
	w.closes(
		api.Booking{Symbol: "XY", Fee: -1},
		api.Booking{Account: "A1", Symbol: "ABC", Qty: -11, Cash: 11000, Fee: -2}, api.Booking{Account: "A1", Symbol: "XY", Qty: 400, Cash: -20000},
		api.Booking{Account: "A2", Symbol: "ABC", Qty: 11, Cash: -11000, Fee: 2}, api.Booking{Account: "A2", Symbol: "XY", Qty: -400, Cash: 20000, Fee: 1},
	)
}

// TestFees: who took pays the taker's fee, who waited the maker's; in an auction both pay the maker's.
func TestFees(t *testing.T) {
	for _, taker := range []int{api.Buy, api.Sell, 0} {
		s := theSetup()
		s.Instruments[0].Maker, s.Instruments[0].Taker = 1001, 3002
		x := open(t, s, nil)
		now := int64(nine)
		if taker == 0 {
			now -= minute
		}
		w := &world{t: t, x: x, now: now}
		w.tick(now)
		a, b := w.joined()
		sell, buy := limit("s", "A1", api.Sell, 10, 1000), limit("b", "A2", api.Buy, 10, 1000)
		if taker == api.Sell {
			w.sends(b, buy)
			w.sends(a, sell)
		} else {
			w.sends(a, sell)
			w.sends(b, buy)
		}
		w.tick(nine)
		fees := map[int]int64{api.Buy: 10, api.Sell: 10} // of 10.01, and 30.02
		if taker != 0 {
			fees[taker] = 30
		}
		w.closes(
			api.Booking{Symbol: "ABC", Fee: -fees[api.Buy] - fees[api.Sell]},
			api.Booking{Account: "A1", Symbol: "ABC", Qty: -10, Cash: 10000, Fee: fees[api.Sell]},
			api.Booking{Account: "A2", Symbol: "ABC", Qty: 10, Cash: -10000, Fee: fees[api.Buy]},
		)
	}
}

// decoded reads a frame of a kind; the zero message, if it is none.
func decoded(kind int, frame []byte) api.Msg {
	if kind == framer.Text {
		m, _ := fix.Decode(frame)
		return m
	}
	m, _ := bin.Decode(frame)
	return m
}
