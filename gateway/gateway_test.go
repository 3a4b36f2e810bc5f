package gateway

import (
	"bytes"
	"fmt"
	"math"
	"slices"
	"strings"
	"testing"

	"outcry/api"
	"outcry/engine"
	"outcry/framer"
)

func TestChapterExamples(t *testing.T) {
	w := start(t)
	a := w.end("F1", framer.Text)
	a.conn = w.connect(framer.Text)
	if a.conn != 1 {
		t.Errorf("the first connection is %d", a.conn)
	}
	a.says(logon())
	a.hears(logon())
	o := limit("o1", "A1", api.Buy, 10, 100)
	a.says(o)
	w.commands(api.Command{Kind: api.DoNew, Owner: 1, O: api.Order{Name: "o1", Account: "A1", Symbol: "ABC", Side: api.Buy, Type: api.Limit, Life: api.Day, Price: 100, Qty: 10}})
	a.hears(happened(o, 1, 1, 1, 1, 10, 0))
	o = limit("o2", "B1", api.Buy, 10, 100)
	a.says(o)
	a.hears(refusal(o, 2, 161))
	w.commands()
	second := w.end("F1", framer.Text)
	second.conn = w.connect(framer.Text)
	second.says(logon())
	w.refused(second.conn)
	a.says(api.Msg{Kind: api.Heartbeat})
	w.bytes(a.conn, textFrame("35=D|49=F1|56=EX|34=5|52=20240103-09:00:00|11=x|1=A1|55=ABC|40=2|59=0|44=1|38=5|"))
	a.hears(api.Msg{Kind: api.Refused, RefSeq: 5, RefKind: 8, Reason: 1, Text: "tag 54"})
	if in := w.view(1).In; in != 6 {
		t.Errorf("in is %d", in)
	}
}

// manyFirms: so many firms, of so many accounts each, all of which may be.
func manyFirms(firms, accounts int) []Firm {
	var l []Firm
	for f := range firms {
		x := Firm{Name: fmt.Sprint("F", f), Keep: 1 + f*199/max(1, firms-1)}
		for a := range accounts {
			x.Accounts = append(x.Accounts, fmt.Sprint("A", f, "X", a))
		}
		l = append(l, x)
	}
	return l
}

func TestY1New(t *testing.T) {
	e := newEngine(t)
	long := strings.Repeat("Z", 12)
	for n, c := range []struct {
		own   string
		firms []Firm
	}{
		{"EX", twoFirms()},
		{"E", manyFirms(1, 1)},
		{long, manyFirms(8, 16)},
		{"A1", twoFirms()}, // an account may be called as the exchange, or a firm, is
		{"EX", []Firm{{Name: long, Accounts: []string{long}, Keep: 200}}},
		{"EX", []Firm{{Name: "1", Accounts: []string{"EX", "2"}, Keep: 1}, {Name: "2", Accounts: []string{"1"}, Keep: 1}}},
	} {
		g, err := New(c.own, c.firms, e)
		if g == nil || err != api.OK {
			t.Errorf("New %d: %v, %d", n, g, err)
			continue
		}
		for conn := range 10 {
			if b, ends, err := g.Out(conn); b != nil || ends || err != api.ErrConn {
				t.Errorf("New %d: Out(%d): %q, %v, %d", n, conn, b, ends, err)
			}
		}
		if len(g.Commands()) > 0 || len(g.Events()) > 0 {
			t.Errorf("New %d: something was done", n)
		}
	}
	if e.Now() != 0 {
		t.Errorf("New lets time go by: %d", e.Now())
	}
}

func TestY1NoGateway(t *testing.T) {
	e := newEngine(t)
	one := func(name string, keep int, accounts ...string) []Firm {
		return []Firm{{Name: name, Accounts: accounts, Keep: keep}}
	}
	for n, c := range []struct {
		own   string
		firms []Firm
		e     *engine.Engine
	}{
		{"", twoFirms(), e}, {"ex", twoFirms(), e}, {"E X", twoFirms(), e}, {strings.Repeat("Z", 13), twoFirms(), e},
		{"EX", twoFirms(), nil},
		{"EX", nil, e}, {"EX", []Firm{}, e}, {"EX", manyFirms(9, 1), e},
		{"F1", twoFirms(), e}, {"F2", twoFirms(), e},
		{"EX", one("", 1, "A"), e}, {"EX", one("f", 1, "A"), e}, {"EX", one(strings.Repeat("Z", 13), 1, "A"), e}, {"EX", one("F-", 1, "A"), e},
		{"EX", one("F", 0, "A"), e}, {"EX", one("F", -1, "A"), e}, {"EX", one("F", 201, "A"), e}, {"EX", one("F", math.MaxInt, "A"), e}, {"EX", one("F", math.MinInt, "A"), e},
		{"EX", one("F", 1), e}, {"EX", manyFirms(1, 17), e},
		{"EX", one("F", 1, ""), e}, {"EX", one("F", 1, "a"), e}, {"EX", one("F", 1, "A", "B", "\xff"), e}, {"EX", one("F", 1, strings.Repeat("Z", 13)), e},
		{"EX", one("F", 1, "A", "A"), e}, {"EX", one("F", 1, "A", "B", "A"), e},
		{"EX", append(one("F", 1, "A", "B"), one("G", 1, "C", "B")...), e},
		{"EX", append(one("F", 1, "A"), one("F", 1, "B")...), e},
		{"EX", append(twoFirms(), one("F1", 1, "C")...), e},
		{"EX", append(twoFirms(), one("F3", 0, "C")...), e},
		{"EX", append(twoFirms(), one("F3", 1)...), e},
		{"EX", append(twoFirms(), one("EX", 1, "C")...), e},
	} {
		if g, err := New(c.own, c.firms, c.e); g != nil || err != api.ErrArg {
			t.Errorf("New %d (%q, %+v): %v, %d", n, c.own, c.firms, g, err)
		}
	}
}

// TestY1KeepsNothing: what New was handed may change later; New does not write into it (P3).
func TestY1KeepsNothing(t *testing.T) {
	firms := twoFirms()
	firms[0].Accounts = append(make([]string, 0, 9), firms[0].Accounts...)
	g, _ := New("EX", firms, newEngine(t))
	if fmt.Sprint(firms, firms[0].Accounts[:9]) != fmt.Sprint(twoFirms(), append(twoFirms()[0].Accounts, make([]string, 6)...)) {
		t.Errorf("New writes into %v", firms)
	}
	firms[0].Accounts[0], firms[0].Name, firms[1] = "B1", "F9", Firm{}
	w := &world{t: t, g: g, now: nine}
	w.tick(nine)
	a := w.end("F1", framer.Text).logsOn()
	o := limit("o", "A1", api.Buy, 1, 100)
	a.says(o)
	a.hears(happened(o, 1, 1, 1, 1, 1, 0))
	w.end("F2", framer.Text).logsOn()
}

func TestY2Connect(t *testing.T) {
	w := start(t)
	for _, kind := range []int{0, 3, -1, math.MaxInt, math.MinInt} {
		for _, now := range []int64{nine, -1} {
			if n, e := w.g.Connect(kind, now); n != 0 || e != api.ErrArg {
				t.Errorf("Connect(%d, %d): %d, %d", kind, now, n, e)
			}
		}
	}
	for _, now := range []int64{-1, tooLate, math.MinInt64, math.MaxInt64} {
		if n, e := w.g.Connect(framer.Text, now); n != 0 || e != api.ErrArg {
			t.Errorf("Connect at %d: %d, %d", now, n, e)
		}
	}
	for n := 1; n <= 8; n++ {
		if got := w.connect(1 + n%2); got != n {
			t.Errorf("connection %d has the number %d", n, got)
		}
	}
	for range 3 {
		if n, e := w.g.Connect(framer.Text, nine); n != 0 || e != api.ErrMany {
			t.Errorf("the ninth connection: %d, %d", n, e)
		}
	}
	if n, e := w.g.Connect(3, nine); n != 0 || e != api.ErrArg {
		t.Errorf("of no kind, when there are too many: %d, %d", n, e)
	}
	expect(t, "Hangup", w.g.Hangup(3, nine), api.OK)
	if n := w.connect(framer.Text); n != 9 {
		t.Errorf("the next connection has the number %d", n)
	}
	w.gone(3)
	w.over(2, "", false)
}

// TestY2Refused: a connection that is refused is there, until somebody is told that it ends.
func TestY2Refused(t *testing.T) {
	w := start(t)
	for range 8 {
		w.connect(framer.Text)
	}
	w.tick(nine + patience)
	if n, e := w.g.Connect(framer.Text, w.now); n != 0 || e != api.ErrMany {
		t.Errorf("behind eight that are refused: %d, %d", n, e)
	}
	w.refused(5)
	if n := w.connect(framer.Binary); n != 9 {
		t.Errorf("its place gets the number %d", n)
	}
}

// TestTime: T is the greatest now of the calls that were not refused by ErrArg or ErrConn.
func TestTime(t *testing.T) {
	const later = nine + 5*second
	for name, c := range map[string]struct {
		call  func(g *Gateway)
		moves bool
	}{
		"Connect":                   {func(g *Gateway) { g.Connect(framer.Text, later) }, true},
		"Connect of no kind":        {func(g *Gateway) { g.Connect(7, later) }, false},
		"Connect of too many":       {func(g *Gateway) { fillUp(g); g.Connect(framer.Text, later) }, true},
		"Bytes":                     {func(g *Gateway) { g.Bytes(1, nil, later) }, true},
		"Bytes of one not bound":    {func(g *Gateway) { g.Bytes(2, []byte("8="), later) }, true},
		"Bytes of a refused one":    {func(g *Gateway) { g.Bytes(3, nil, later) }, true},
		"Bytes of no connection":    {func(g *Gateway) { g.Bytes(9, nil, later) }, false},
		"Bytes too late":            {func(g *Gateway) { g.Bytes(1, nil, tooLate) }, false},
		"Hangup":                    {func(g *Gateway) { g.Hangup(2, later) }, true},
		"Hangup of no connection":   {func(g *Gateway) { g.Hangup(9, later) }, false},
		"Hangup too late":           {func(g *Gateway) { g.Hangup(2, tooLate) }, false},
		"Tick":                      {func(g *Gateway) { g.Tick(later) }, true},
		"Tick too late":             {func(g *Gateway) { g.Tick(tooLate) }, false},
		"Tick below 0":              {func(g *Gateway) { g.Tick(-1) }, false},
		"Tick, and one back":        {func(g *Gateway) { g.Tick(later); g.Tick(0) }, true},
		"Bytes, and one back":       {func(g *Gateway) { g.Bytes(1, nil, later); g.Connect(framer.Text, nine) }, true},
		"Out, Commands, and Events": {func(g *Gateway) { g.Out(1); g.Commands(); g.Events() }, false},
	} {
		t.Run(name, func(t *testing.T) {
			w := start(t)
			a := w.end("F1", framer.Text).logsOn()
			w.connect(framer.Text)
			bad := w.end("F2", framer.Text)
			bad.conn = w.connect(framer.Text)
			bad.says(api.Msg{Kind: api.Heartbeat})
			c.call(w.g)
			w.g.Commands()
			o := limit("o", "A1", api.Buy, 1, 100)
			w.bytes(a.conn, frame(t, framer.Text, a.signed(o)))
			if c.moves {
				w.now = later
			}
			a.hears(happened(o, 1, 1, 1, 1, 1, 0))
			w.commands(api.Command{Kind: api.DoNew, Owner: 1, O: orderOf(o)})
		})
	}
}

func fillUp(g *Gateway) {
	for range api.MaxConns {
		g.Connect(framer.Binary, nine)
	}
}

// orderOf is the order of a NewOrder, as a command has it.
func orderOf(m api.Msg) api.Order {
	return api.Order{
		Name: m.ID, Account: m.Account, Symbol: m.Symbol, Side: m.Side, Type: m.Type, Life: m.Life,
		Price: m.Price, Stop: m.Stop, Qty: m.Qty, Show: m.Show, Least: m.Least, Until: m.Until,
	}
}

func TestY3Arguments(t *testing.T) {
	w := start(t)
	a := w.end("F1", framer.Text).logsOn()
	for _, now := range []int64{-1, tooLate, math.MinInt64, math.MaxInt64} {
		for _, conn := range []int{a.conn, 0, 99} {
			expect(t, "Bytes at no time", w.g.Bytes(conn, frame(t, framer.Text, a.signed(limit("o", "A1", 1, 1, 1))), now), api.ErrArg)
			expect(t, "Hangup at no time", w.g.Hangup(conn, now), api.ErrArg)
		}
	}
	for _, conn := range []int{0, -1, 2, math.MaxInt, math.MinInt} {
		w.gone(conn)
	}
	w.bytes(a.conn, nil)
	w.bytes(a.conn, []byte{})
	w.commands()
	a.hears()
}

// TestY3Pieces: in whatever pieces bytes come, the same is done.
func TestY3Pieces(t *testing.T) {
	eachKind(t, func(t *testing.T, kind int) {
		o, p := limit("o", "A1", api.Buy, 10, 100), limit("p", "A2", api.Sell, 4, 101)
		x := start(t).end("F1", kind)
		var stream []byte
		for n, m := range []api.Msg{logon(), o, p} {
			m.Seq = n + 1
			stream = append(stream, frame(t, kind, x.signed(m))...)
			stream = append(stream, "junk"...)
		}
		for size := 1; size <= len(stream); size += 1 + size/9 {
			w := start(t)
			a := w.end("F1", kind)
			a.conn = w.connect(kind)
			for piece := range slices.Chunk(stream, size) {
				copied := bytes.Clone(piece)
				w.bytes(a.conn, copied)
				if !bytes.Equal(copied, piece) {
					t.Fatalf("Bytes writes into what it is handed")
				}
				clear(copied)
			}
			a.hears(logon(), happened(o, 1, 1, 1, 1, 10, 0), happened(p, 1, 1, 2, 2, 4, 0))
			w.commands(api.Command{Kind: api.DoNew, Owner: 1, O: orderOf(o)}, api.Command{Kind: api.DoNew, Owner: 1, O: orderOf(p)})
		}
	})
}

// TestY3Apart: each connection has bytes, and a kind, of its own.
func TestY3Apart(t *testing.T) {
	w := start(t)
	a, b := w.end("F1", framer.Text), w.end("F2", framer.Binary)
	a.conn, b.conn = w.connect(a.kind), w.connect(b.kind)
	one, two := frame(t, a.kind, a.signed(logon())), frame(t, b.kind, b.signed(logon()))
	for n := range max(len(one), len(two)) {
		w.bytes(a.conn, one[min(n, len(one)):min(n+1, len(one))])
		w.bytes(b.conn, two[min(n, len(two)):min(n+1, len(two))])
	}
	a.hears(logon())
	b.hears(logon())
	// The other kind's frames are none.
	c := w.connect(framer.Text)
	w.bytes(c, two)
	w.over(c, "", false)
	c = w.connect(framer.Binary)
	w.bytes(c, one)
	w.over(c, "", false)
}

// TestY3Behind: what stands behind a message by which a connection is refused is let be, in the same bytes and in later ones.
func TestY3Behind(t *testing.T) {
	eachKind(t, func(t *testing.T, kind int) {
		w := start(t)
		a := w.end("F1", kind)
		a.conn = w.connect(kind)
		first, second := frame(t, kind, a.signed(api.Msg{Kind: api.Heartbeat})), frame(t, kind, a.signed(logon()))
		w.bytes(a.conn, slices.Concat(first, second, second))
		w.bytes(a.conn, second)
		if w.view(1) != (api.LinkView{In: 1, Out: 1}) {
			t.Errorf("the session is %+v", w.view(1))
		}
		w.refused(a.conn)
		a.logsOn()
	})
}

// kinds gives a message of each kind that may be.
func kinds() []api.Msg {
	return []api.Msg{
		{Kind: api.Heartbeat}, {Kind: api.TestRequest, TestID: "x"}, {Kind: api.ResendRequest, Begin: 1}, {Kind: api.Reject, RefSeq: 1},
		{Kind: api.SequenceReset, Next: 5, Fill: true}, {Kind: api.Logout}, logon(), limit("o", "A1", api.Buy, 1, 100),
		{Kind: api.CancelOrder, ID: "c", OrigID: "o", Symbol: "ABC", Side: api.Buy},
		{Kind: api.ReplaceOrder, ID: "r", OrigID: "o", Symbol: "ABC", Side: api.Buy, Qty: 1},
		{Kind: api.MassCancel, ID: "m"}, {Kind: api.AskStatus, ID: "o", Symbol: "ABC", Side: api.Buy},
		{Kind: api.Execution, ID: "o", Account: "A1", Symbol: "ABC", Side: api.Buy, Qty: 1, ExecID: 1, Exec: 1, State: 1, Left: 1},
		{Kind: api.CancelReject, ID: "c", OrigID: "o", State: 1}, {Kind: api.MassReport, ID: "m"}, {Kind: api.Refused, RefSeq: 1, RefKind: 8}, {Kind: api.Status, Symbol: "ABC"},
	}
}

// TestY4Refused: over a connection that is not bound nothing comes but the Logon of a firm that is not there.
func TestY4Refused(t *testing.T) {
	eachKind(t, func(t *testing.T, kind int) {
		for _, m := range kinds() {
			w := start(t)
			a := w.end("F1", kind)
			a.conn = w.connect(kind)
			a.says(m)
			if m.Kind == api.Logon {
				a.hears(logon())
				continue
			}
			w.refused(a.conn)
			w.commands()
			if w.view(1) != (api.LinkView{In: 1, Out: 1}) {
				t.Errorf("%s: the session is %+v", words(m), w.view(1))
			}
		}
	})
}

func TestY4WrongLogon(t *testing.T) {
	eachKind(t, func(t *testing.T, kind int) {
		for _, c := range []struct{ sender, target string }{{"F3", "EX"}, {"F1", "F2"}, {"EX", "F1"}, {"EX", "EX"}, {"F1", "EXX"}, {"F11", "EX"}, {"F", "EX"}} {
			w := start(t)
			conn := w.connect(kind)
			m := logon()
			m.Sender, m.Target, m.Seq, m.Time = c.sender, c.target, 1, w.now
			w.bytes(conn, frame(t, kind, m))
			if w.view(1).State != api.Down || w.view(2).State != api.Down {
				t.Errorf("%+v: somebody is up", c)
			}
			w.refused(conn)
		}
	})
}

// TestY4Connected: a firm that is there can't log on once more, until its connection is there no more.
func TestY4Connected(t *testing.T) {
	w := start(t)
	a := w.end("F1", framer.Text).logsOn()
	before := w.view(1)
	for kind := framer.Text; kind <= framer.Binary; kind++ {
		b := w.end("F1", kind)
		b.conn = w.connect(kind)
		b.said = a.said
		b.says(logon())
		w.refused(b.conn)
		if w.view(1) != before {
			t.Errorf("the session is %+v, was %+v", w.view(1), before)
		}
	}
	a.says(api.Msg{Kind: api.TestRequest, TestID: "there"})
	a.hears(api.Msg{Kind: api.Heartbeat, TestID: "there"})
	w.end("F2", framer.Text).logsOn()
	expect(t, "Hangup", w.g.Hangup(a.conn, w.now), api.OK)
	a.kind = framer.Binary // the protocol may be another one each time
	a.logsOn()
}

// TestY4SessionRefuses: a Logon that the session does not like binds the connection; the session says why, and ends it.
func TestY4SessionRefuses(t *testing.T) {
	for text, m := range map[string]api.Msg{
		"reset": {Kind: api.Logon, Beat: 30, Reset: true},
		"beat":  {Kind: api.Logon, Beat: 29},
	} {
		w := start(t)
		a := w.end("F1", framer.Text)
		a.conn = w.connect(framer.Text)
		a.says(m, limit("o", "A1", api.Buy, 1, 100))
		a.hearsLast(api.Msg{Kind: api.Logout, Text: text})
		w.commands()
		a.said = 0
		a.logsOn()
	}
	w := start(t)
	a := w.end("F1", framer.Binary).logsOn()
	a.says(api.Msg{Kind: api.Heartbeat})
	w.g.Hangup(a.conn, w.now)
	a.conn, a.said = w.connect(framer.Binary), 0
	a.says(logon())
	a.hearsLast(api.Msg{Kind: api.Logout, Text: "low"})
}

// TestY4Ends: a firm whose session ends a connection is not there any more only when it has been told.
func TestY4Ends(t *testing.T) {
	w := start(t)
	a := w.end("F1", framer.Text).logsOn()
	a.says(api.Msg{Kind: api.Logout})
	a.says(limit("o", "A1", api.Buy, 1, 100))
	w.commands()
	b := w.end("F1", framer.Text)
	b.conn, b.said = w.connect(framer.Text), a.said-1
	b.says(logon())
	w.refused(b.conn)
	a.hearsLast(api.Msg{Kind: api.Logout})
	a.said--
	a.logsOn()
}

// TestY4Others: over a connection that is bound messages of others are let be.
func TestY4Others(t *testing.T) {
	w := start(t)
	a := w.end("F1", framer.Binary).logsOn()
	w.end("F2", framer.Binary).logsOn()
	for _, c := range []struct{ sender, target string }{{"F2", "EX"}, {"F1", "F2"}, {"F3", "EX"}, {"EX", "F1"}} {
		m := a.signed(limit("o", "A1", api.Buy, 1, 100))
		m.Sender, m.Target = c.sender, c.target
		w.bytes(a.conn, frame(t, framer.Binary, m))
	}
	a.hears()
	w.commands()
	if w.view(1).In != 2 || w.view(2).In != 2 {
		t.Errorf("sessions are %+v, %+v", w.view(1), w.view(2))
	}
}
