package gateway

import (
	"fmt"
	"testing"

	"outcry/api"
	"outcry/framer"
)

// order is a NewOrder of ABC, of a type and a life.
func order(id, account string, side, kind, life int, qty, price, stop int64) api.Msg {
	m := limit(id, account, side, qty, price)
	m.Type, m.Life, m.Stop = kind, life, stop
	return m
}

// TestY6Accepted: an Execution tells what the order says, of each type and life.
func TestY6Accepted(t *testing.T) {
	eachKind(t, func(t *testing.T, kind int) {
		w := start(t)
		a := w.end("F1", kind).logsOn()
		show := order("show", "A1", api.Sell, api.Limit, api.GTD, 50, 104, 0)
		show.Show, show.Until = 5, 20240103
		least := order("least", "A2", api.Sell, api.Limit, api.IOC, 5, 103, 0)
		least.Least = 2
		for n, o := range []api.Msg{
			order("day", "A1", api.Sell, api.Limit, api.Day, 10, 101, 0),
			order("gtc", "A2", api.Sell, api.Limit, api.GTC, 20, 102, 0),
			order("post", "A1", api.Sell, api.Limit, api.PostOnly, 30, 103, 0),
			show,
			order("stop", "A1", api.Buy, api.Stop, api.Day, 40, 0, 110),
			order("both", "A2", api.Sell, api.StopLimit, api.GTC, 50, 80, 90),
		} {
			a.says(o)
			a.hears(happened(o, 1, 1, n+1, n+1, o.Qty, 0))
		}
		for n, c := range []struct {
			o   api.Msg
			why api.Errno
		}{
			{least, api.ErrFill},
			{order("fok", "A1", api.Sell, api.Market, api.FOK, 1, 0, 0), api.ErrFill},
			{order("open", "A1", api.Sell, api.Limit, api.AtOpen, 1, 100, 0), api.ErrPhase},
			{order("day", "A1", api.Sell, api.Limit, api.Day, 1, 100, 0), api.ErrKnown},
			{order("mday", "A1", api.Buy, api.Market, api.Day, 1, 0, 0), api.ErrType},
			{with(limit("none", "A1", api.Buy, 1, 1), func(m *api.Msg) { m.Symbol = "NONE" }), api.ErrSymbol},
			{with(limit("lot", "A1", api.Buy, 15, 100), func(m *api.Msg) { m.Symbol = "XY" }), api.ErrLot},
		} {
			a.says(c.o)
			a.hears(refusal(c.o, n+7, c.why))
		}
	})
}

// TestY5Trades: both sides of a trade are told, each to its owner, in the order of the events.
func TestY5Trades(t *testing.T) {
	w := start(t)
	a, b := w.end("F1", framer.Text).logsOn(), w.end("F2", framer.Binary).logsOn()
	one, two := limit("one", "A1", api.Sell, 10, 100), limit("two", "A2", api.Sell, 10, 101)
	a.says(one, two)
	buy := limit("buy", "B1", api.Buy, 15, 105)
	b.says(buy)
	b.hears(happened(buy, 1, 1, 3, 3, 15, 0), fill(buy, 2, 4, 3, 5, 10, 10, 100), fill(buy, 3, 6, 3, 0, 15, 5, 101))
	a.hears(happened(one, 1, 1, 1, 1, 10, 0), happened(two, 1, 1, 2, 2, 10, 0),
		fill(one, 3, 5, 1, 0, 10, 10, 100), fill(two, 2, 7, 2, 5, 5, 5, 101))
	rest := order("rest", "B1", api.Buy, api.Market, api.IOC, 9, 0, 0)
	b.says(rest)
	b.hears(happened(rest, 1, 1, 8, 4, 9, 0), fill(rest, 2, 9, 4, 4, 5, 5, 101), happened(rest, 4, 4, 11, 4, 0, 5))
	a.hears(fill(two, 3, 10, 2, 0, 10, 5, 101))
}

// TestY5OneFirm: if both sides are one firm's, it hears of both; if they are of one account, the one that waits is cancelled.
func TestY5OneFirm(t *testing.T) {
	w := start(t)
	a := w.end("F1", framer.Text).logsOn()
	sell, buy, own := limit("sell", "A1", api.Sell, 4, 100), limit("buy", "A2", api.Buy, 3, 100), limit("own", "A1", api.Buy, 2, 100)
	a.says(sell, buy, own)
	a.hears(happened(sell, 1, 1, 1, 1, 4, 0),
		happened(buy, 1, 1, 2, 2, 3, 0), fill(buy, 3, 3, 2, 0, 3, 3, 100), fill(sell, 2, 4, 1, 1, 3, 3, 100),
		happened(own, 1, 1, 5, 3, 2, 0), happened(sell, 4, 4, 6, 1, 0, 3))
}

// TestY5Strangers: events of owners that are no firm's place are told to nobody, and make no Execution.
func TestY5Strangers(t *testing.T) {
	w := start(t)
	for _, owner := range []int{3, 9, 1 << 40} {
		w.e.Do(api.Command{Kind: api.DoNew, Time: nine, Owner: owner, O: api.Order{Name: "x", Account: "Z", Symbol: "ABC", Side: api.Sell, Type: api.Limit, Life: api.Day, Price: 100, Qty: 5}})
	}
	a, b := w.end("F1", framer.Text).logsOn(), w.end("F2", framer.Text).logsOn()
	buy := limit("buy", "A1", api.Buy, 6, 100)
	a.says(buy)
	a.hears(happened(buy, 1, 1, 1, 4, 6, 0), fill(buy, 2, 2, 4, 1, 5, 5, 100), fill(buy, 3, 3, 4, 0, 6, 1, 100))
	b.hears()
	x := api.Event{Kind: api.EvMass, Owner: 0, Count: 3, O: api.Order{Account: "A1"}}
	for _, x.Owner = range []int{0, -1, 3} {
		for x.Kind = api.EvAccepted; x.Kind <= api.EvMass; x.Kind++ {
			if x.Kind != api.EvPhase {
				w.g.report(api.Command{Kind: api.DoNew}, x)
			}
		}
	}
	a.hears()
	b.hears()
	if w.g.executions != 3 {
		t.Errorf("%d Executions were made", w.g.executions)
	}
}

// TestY5Untold: levels and results of auctions are not told by reports, whoever is said to own them.
func TestY5Untold(t *testing.T) {
	w := start(t)
	a := w.end("F1", framer.Text).logsOn()
	for _, kind := range []int{0, -1, api.EvLevel, api.EvAuction, 12} {
		w.g.report(api.Command{Kind: api.DoNew}, api.Event{Kind: kind, Owner: 1, Symbol: "ABC", Name: "x"})
	}
	a.hears()
	w.g.report(api.Command{Kind: api.DoTime}, api.Event{Kind: api.EvRejected, Owner: 1, Err: api.ErrArg})
	a.hears()
}

// TestY5NotConnected: reports to a firm that is not there wait for it, in order.
func TestY5NotConnected(t *testing.T) {
	w := start(t)
	a, b := w.end("F1", framer.Text).logsOn(), w.end("F2", framer.Text).logsOn()
	sell := limit("sell", "A1", api.Sell, 10, 100)
	a.says(sell)
	expect(t, "Hangup", w.g.Hangup(a.conn, w.now), api.OK) // what was to go out is lost
	w.now += second
	buy := limit("buy", "B1", api.Buy, 4, 100)
	b.says(buy)
	b.hears(happened(buy, 1, 1, 2, 2, 4, 0), fill(buy, 3, 3, 2, 0, 4, 4, 100))
	a.kind = framer.Binary
	a.heard += 2
	a.logsOn()
	a.says(api.Msg{Kind: api.ResendRequest, Begin: 2})
	a.hears(happened(sell, 1, 1, 1, 1, 10, 0), fill(sell, 2, 4, 1, 6, 4, 4, 100), api.Msg{Kind: api.SequenceReset, Fill: true, Next: 5})
}

// TestY5Phases: phases are told to those that are there when they begin, to no others.
func TestY5Phases(t *testing.T) {
	w := emptyWorld(t, nine-30*minute)
	a, b := w.end("F1", framer.Text).logsOn(), w.end("F2", framer.Binary)
	phase := func(symbol string, phase int) api.Msg { return api.Msg{Kind: api.Status, Symbol: symbol, Phase: phase} }
	w.tick(w.now)
	a.hears(phase("ABC", api.PreOpen))
	sell, buy := limit("sell", "A1", api.Sell, 5, 99), limit("buy", "A2", api.Buy, 5, 101)
	early := order("early", "A1", api.Buy, api.Limit, api.AtOpen, 7, 90, 0)
	a.says(sell, buy, early)
	a.hears(happened(sell, 1, 1, 1, 1, 5, 0), happened(buy, 1, 1, 2, 2, 5, 0), happened(early, 1, 1, 3, 3, 7, 0))
	w.now = nine
	b.conn = w.connect(b.kind) // it is there, and has not logged on
	a.says(api.Msg{Kind: api.Heartbeat})
	w.tick(nine)
	a.hears(phase("ABC", api.Opening), fill(buy, 3, 4, 2, 0, 5, 5, 100), fill(sell, 3, 5, 1, 0, 5, 5, 100),
		happened(early, 7, 6, 6, 3, 0, 0), phase("ABC", api.Trading), phase("XY", api.Opening), phase("XY", api.Trading))
	b.says(logon())
	b.hears(logon())
	a.says(api.Msg{Kind: api.Logout}) // it leaves, and is not up any more
	before := w.view(1)
	w.now = wednesday + 16*hour + 40*minute
	b.says(api.Msg{Kind: api.MassCancel, ID: "m"}) // time passes by any command
	b.hears(phase("ABC", api.Closing), api.Msg{Kind: api.MassReport, ID: "m"})
	if w.view(1) != before {
		t.Errorf("F1's session is %+v, was %+v", w.view(1), before)
	}
	w.g.Hangup(a.conn, w.now)
	w.now += 10 * minute
	b.says(api.Msg{Kind: api.MassCancel, ID: "m"})
	b.hears(phase("ABC", api.Closed), phase("XY", api.Closed), api.Msg{Kind: api.MassReport, ID: "m"})
	a.heard++ // its Logout was lost
	a.logsOn()
}

// TestY5Cancels: what is told of cancels and replacements, done and refused.
func TestY5Cancels(t *testing.T) {
	w := start(t)
	a, b := w.end("F1", framer.Text).logsOn(), w.end("F2", framer.Text).logsOn()
	cancel := func(id, of string) api.Msg {
		return api.Msg{Kind: api.CancelOrder, ID: id, OrigID: of, Symbol: "ABC", Side: api.Buy}
	}
	replace := func(id, of string, qty, price int64) api.Msg {
		return api.Msg{Kind: api.ReplaceOrder, ID: id, OrigID: of, Symbol: "ABC", Side: api.Buy, Qty: qty, Price: price}
	}
	no := func(id, of string, why api.Errno, orderID, state int) api.Msg {
		return api.Msg{Kind: api.CancelReject, ID: id, OrigID: of, Reason: int(why), OrderID: orderID, State: state}
	}
	a.says(cancel("c", "o"), replace("c", "o", 1, 1))
	a.hears(no("c", "o", api.ErrNone, 0, 5), no("c", "o", api.ErrNone, 0, 5))
	o := limit("o", "A1", api.Buy, 10, 100)
	a.says(o, replace("o", "o", 10, 100))
	a.hears(happened(o, 1, 1, 1, 1, 10, 0), no("o", "o", api.ErrKnown, 1, 1))
	a.says(replace("o2", "o", 12, 99))
	o.ID, o.Qty, o.Price = "o2", 12, 99
	a.hears(with(happened(o, 5, 1, 2, 1, 12, 0), func(m *api.Msg) { m.OrigID = "o" }))
	b.says(limit("s", "B1", api.Sell, 5, 99))
	a.hears(fill(o, 2, 4, 1, 7, 5, 5, 99))
	a.says(replace("o3", "o2", 5, 99), replace("o4", "o2", 8, 98), cancel("c", "o2"))
	a.hears(no("o3", "o2", api.ErrArg, 1, 2),
		with(happened(with(o, func(m *api.Msg) { m.ID, m.Qty, m.Price = "o4", 8, 98 }), 5, 2, 6, 1, 3, 5), func(m *api.Msg) { m.OrigID = "o2" }),
		no("c", "o2", api.ErrNone, 0, 5))
	a.says(cancel("c", "o4"))
	o.ID, o.Qty, o.Price = "o4", 8, 98
	a.hears(happened(o, 4, 4, 7, 1, 0, 5))
	b.says(cancel("c", "o4")) // another firm's order is none of its
	l, _ := b.messages()
	if got := l[len(l)-1]; got.Kind != api.CancelReject || got.Reason != int(api.ErrNone) || got.OrderID != 0 || got.State != 5 {
		t.Errorf("F2 hears %s", words(got))
	}
}

// TestY5ReplaceTrades: a replacement by which an order trades is told ahead of the trades, all by its new name.
func TestY5ReplaceTrades(t *testing.T) {
	w := start(t)
	a, b := w.end("F1", framer.Text).logsOn(), w.end("F2", framer.Text).logsOn()
	sell, o := limit("sell", "B1", api.Sell, 5, 101), limit("o", "A1", api.Buy, 10, 100)
	b.says(sell)
	a.says(o, api.Msg{Kind: api.ReplaceOrder, ID: "p", OrigID: "o", Symbol: "ABC", Side: api.Buy, Qty: 20, Price: 102})
	p := o
	p.ID, p.Qty, p.Price = "p", 20, 102
	a.hears(happened(o, 1, 1, 2, 2, 10, 0),
		with(happened(p, 5, 1, 3, 2, 20, 0), func(m *api.Msg) { m.OrigID = "o" }),
		fill(p, 2, 4, 2, 15, 5, 5, 101))
	b.hears(happened(sell, 1, 1, 1, 1, 5, 0), fill(sell, 3, 5, 1, 0, 5, 5, 101))
}

// TestY5Stops: a stop that comes alive is told as what it is then; one for which there is nothing is cancelled, without a reason.
func TestY5Stops(t *testing.T) {
	w := start(t)
	a, b := w.end("F1", framer.Text).logsOn(), w.end("F2", framer.Text).logsOn()
	market := order("market", "A1", api.Buy, api.Stop, api.Day, 5, 0, 105)
	both := order("both", "A2", api.Buy, api.StopLimit, api.GTC, 6, 106, 105)
	a.says(market, both, limit("s", "A1", api.Sell, 1, 105))
	b.says(limit("b", "B1", api.Buy, 1, 105))
	alive, waits := market, both
	alive.Type, waits.Type = api.Market, api.Limit
	s := limit("s", "A1", api.Sell, 1, 105)
	a.hears(happened(market, 1, 1, 1, 1, 5, 0), happened(both, 1, 1, 2, 2, 6, 0), happened(s, 1, 1, 3, 3, 1, 0), fill(s, 3, 6, 3, 0, 1, 1, 105),
		happened(alive, 6, 1, 7, 1, 5, 0), happened(alive, 4, 4, 8, 1, 0, 0),
		happened(waits, 6, 1, 9, 2, 6, 0))
}

// TestY5Expired: at the end of the day orders expire: with what was done, if something was.
func TestY5Expired(t *testing.T) {
	w := start(t)
	a, b := w.end("F1", framer.Text).logsOn(), w.end("F2", framer.Text).logsOn()
	o, p := limit("o", "A1", api.Buy, 10, 100), order("p", "A1", api.Sell, api.Stop, api.Day, 3, 0, 50)
	a.says(o, p)
	b.says(limit("b", "B1", api.Sell, 4, 100))
	a.hears(happened(o, 1, 1, 1, 1, 10, 0), happened(p, 1, 1, 2, 2, 3, 0), fill(o, 2, 4, 1, 6, 4, 4, 100))
	w.now = wednesday + 16*hour + 50*minute
	a.says(api.Msg{Kind: api.MassCancel, ID: "m"}) // time passes by any command
	phase := func(symbol string, phase int) api.Msg { return api.Msg{Kind: api.Status, Symbol: symbol, Phase: phase} }
	a.hears(phase("ABC", api.Closing), phase("ABC", api.Closed), happened(o, 7, 6, 6, 1, 0, 4), happened(p, 7, 6, 7, 2, 0, 0), phase("XY", api.Closed),
		api.Msg{Kind: api.MassReport, ID: "m"})
}

// TestY6ExecID: Executions are counted over all firms, those that a session refuses among them.
func TestY6ExecID(t *testing.T) {
	w := start(t)
	a, b := w.end("F1", framer.Text).logsOn(), w.end("F2", framer.Text).logsOn()
	for n := range 5 {
		o, p := limit(fmt.Sprint("o", n), "A1", api.Buy, 1, 90), limit(fmt.Sprint("p", n), "A1", api.Sell, 1, 110)
		a.says(o)
		b.says(p) // an account of the other firm
		a.hears(happened(o, 1, 1, 2*n+1, n+1, 1, 0))
		b.hears(refusal(p, 2*n+2, api.ErrAccount))
	}
	w.g.executions = api.MaxSeq - 1 // nobody can make so many here
	last, beyond := limit("last", "A1", api.Buy, 1, 90), limit("beyond", "A1", api.Buy, 1, 90)
	a.says(last, beyond)
	a.says(api.Msg{Kind: api.AskStatus, ID: "none", Symbol: "ABC", Side: api.Buy})
	a.hears(happened(last, 1, 1, api.MaxSeq, 6, 1, 0), api.Msg{Kind: api.Refused, RefSeq: a.said, RefKind: api.AskStatus, Reason: int(api.ErrNone)})
	if w.g.executions != api.MaxSeq+1 {
		t.Errorf("%d Executions were made", w.g.executions)
	}
	if _, e := w.e.Order(1, "beyond"); e != api.OK {
		t.Errorf("the order of which nothing was told: %d", e)
	}
}

// TestY6Words: of events as no engine tells them, each field is still the one that the chapter names.
func TestY6Words(t *testing.T) {
	w := start(t)
	a := w.end("F1", framer.Text).logsOn()
	c := api.Command{Kind: api.DoNew, Owner: 2, Name: "was", O: api.Order{Name: "c", Symbol: "ABC"}}
	x := api.Event{
		Symbol: "NOT", Owner: 1, Name: "x", Side: api.Sell, Err: api.ErrLot, Phase: 3, Count: 4,
		O: api.Order{ID: 7, Name: "y", Account: "Z", Symbol: "XY", Side: api.Buy, Type: api.Limit, Life: api.GTC, Price: -1, Stop: -2, Show: -3, Qty: 5, Done: 6, Least: 2, Until: 20240104, Owner: 2},
		F: api.Fill{Price: 8, Qty: 9},
	}
	want := api.Msg{Kind: api.Execution, ID: "x", OrderID: 7, Account: "Z", Symbol: "XY", Side: api.Sell, Type: api.Limit, Life: api.GTC, Qty: 11, Left: 5, Done: 6}
	for n, change := range []func(m *api.Msg){
		func(m *api.Msg) { m.Exec, m.State = 1, 1 },
		func(m *api.Msg) {
			m.Exec, m.State, m.OrderID, m.Side, m.Left, m.Reason = 2, 5, 0, api.Buy, 0, int(api.ErrLot)
		},
		func(m *api.Msg) { m.Exec, m.State, m.LastPrice, m.LastQty = 3, 2, 8, 9 },
		func(m *api.Msg) { m.Exec, m.State, m.Left = 4, 4, 0 },
		func(m *api.Msg) { m.Exec, m.State, m.OrigID = 5, 2, "was" },
		func(m *api.Msg) { m.Exec, m.State = 6, 2 },
		func(m *api.Msg) { m.Exec, m.State, m.Left = 7, 6, 0 },
	} {
		x.Kind = n + 1
		w.g.report(c, x)
		want.ExecID = n + 1
		a.hears(with(want, change))
	}
	x.Kind = api.EvMass
	w.g.report(c, x)
	a.hears(api.Msg{Kind: api.MassReport, ID: "x", Symbol: "NOT", Count: 4})
}
