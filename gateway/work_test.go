package gateway

import (
	"testing"

	"outcry/api"
	"outcry/framer"
)

// owner1 is a command of the first firm.
func owner1(kind int, name string, o api.Order) api.Command {
	return api.Command{Kind: kind, Owner: 1, Name: name, O: o}
}

// TestY4Commands: what a message says reaches the engine, with nothing beside it.
func TestY4Commands(t *testing.T) {
	eachKind(t, func(t *testing.T, kind int) {
		for n, c := range []struct {
			m    api.Msg
			want api.Command
		}{
			{
				api.Msg{Kind: api.NewOrder, ID: "a.b_c-D", Account: "A2", Symbol: "XY", Side: api.Sell, Type: api.StopLimit, Life: api.GTD, Price: 105, Stop: 95, Qty: 300, Show: 20, Least: 10, Until: 20240131},
				owner1(api.DoNew, "", api.Order{Name: "a.b_c-D", Account: "A2", Symbol: "XY", Side: api.Sell, Type: api.StopLimit, Life: api.GTD, Price: 105, Stop: 95, Qty: 300, Show: 20, Least: 10, Until: 20240131}),
			},
			{
				api.Msg{Kind: api.NewOrder, ID: "m", Account: "A1", Symbol: "NONE", Side: api.Buy, Type: api.Market, Life: api.IOC, Qty: api.MaxQty},
				owner1(api.DoNew, "", api.Order{Name: "m", Account: "A1", Symbol: "NONE", Side: api.Buy, Type: api.Market, Life: api.IOC, Qty: api.MaxQty}),
			},
			{
				api.Msg{Kind: api.NewOrder, ID: "p", Account: "A1", Symbol: "ABC", Side: api.Buy, Type: api.Limit, Life: api.PostOnly, Price: api.MaxPrice, Qty: 1},
				owner1(api.DoNew, "", api.Order{Name: "p", Account: "A1", Symbol: "ABC", Side: api.Buy, Type: api.Limit, Life: api.PostOnly, Price: api.MaxPrice, Qty: 1}),
			},
			{
				api.Msg{Kind: api.CancelOrder, ID: "c", OrigID: "o", Symbol: "ABC", Side: api.Sell},
				owner1(api.DoCancel, "o", api.Order{Name: "c", Symbol: "ABC", Side: api.Sell}),
			},
			{
				api.Msg{Kind: api.ReplaceOrder, ID: "r", OrigID: "o", Symbol: "XY", Side: api.Buy, Price: 7, Stop: 8, Qty: 9},
				owner1(api.DoReplace, "o", api.Order{Name: "r", Symbol: "XY", Side: api.Buy, Price: 7, Stop: 8, Qty: 9}),
			},
			{
				api.Msg{Kind: api.ReplaceOrder, ID: "r", OrigID: "o", Symbol: "XY", Side: api.Buy, Qty: 9},
				owner1(api.DoReplace, "o", api.Order{Name: "r", Symbol: "XY", Side: api.Buy, Qty: 9}),
			},
			{
				api.Msg{Kind: api.MassCancel, ID: "m"},
				owner1(api.DoMass, "", api.Order{Name: "m"}),
			},
			{
				api.Msg{Kind: api.MassCancel, ID: "m", Account: "A2", Symbol: "XY", Side: api.Sell},
				owner1(api.DoMass, "", api.Order{Name: "m", Account: "A2", Symbol: "XY", Side: api.Sell}),
			},
		} {
			w := start(t)
			a := w.end("F1", kind).logsOn()
			w.now += int64(n)
			a.says(c.m)
			w.commands(c.want)
		}
	})
}

// TestY4Owner: a command's owner is the firm's place, whoever else is there, and its orders are that firm's alone.
func TestY4Owner(t *testing.T) {
	w := start(t)
	b, a := w.end("F2", framer.Text).logsOn(), w.end("F1", framer.Binary).logsOn()
	o, p := limit("same", "A1", api.Buy, 5, 90), limit("same", "B1", api.Buy, 7, 80)
	a.says(o)
	b.says(p)
	w.commands(owner1(api.DoNew, "", orderOf(o)), api.Command{Kind: api.DoNew, Owner: 2, O: orderOf(p)})
	a.hears(happened(o, 1, 1, 1, 1, 5, 0))
	b.hears(happened(p, 1, 1, 2, 2, 7, 0))
	b.says(api.Msg{Kind: api.CancelOrder, ID: "c", OrigID: "same", Symbol: "ABC", Side: api.Buy})
	b.hears(happened(p, 4, 4, 3, 2, 0, 0))
	a.says(api.Msg{Kind: api.AskStatus, ID: "same", Symbol: "ABC", Side: api.Buy})
	a.hears(happened(o, 8, 1, 4, 1, 5, 0))
	w.commands(api.Command{Kind: api.DoCancel, Owner: 2, Name: "same", O: api.Order{Name: "c", Symbol: "ABC", Side: api.Buy}})
}

// TestY4Accounts: an order of an account that is not the firm's is told as rejected, and no command; one of an account that only the engine does not know is the engine's to refuse.
func TestY4Accounts(t *testing.T) {
	eachKind(t, func(t *testing.T, kind int) {
		w := start(t)
		a := w.end("F1", kind).logsOn()
		for n, account := range []string{"B1", "Z", "A", "A11", "F1"} {
			o := api.Msg{Kind: api.NewOrder, ID: "o", Account: account, Symbol: "XY", Side: api.Sell, Type: api.StopLimit, Life: api.GTD, Price: 105, Stop: 95, Qty: 300, Show: 20, Least: 10, Until: 20240131}
			a.says(o)
			a.hears(refusal(o, n+1, api.ErrAccount))
			w.commands()
			if l := w.g.Events(); len(l) > 0 {
				t.Errorf("events of no command: %+v", l)
			}
		}
		o := limit("o", "GHOST", api.Buy, 1, 100)
		a.says(o)
		a.hears(refusal(o, 6, api.ErrAccount))
		w.commands(owner1(api.DoNew, "", orderOf(o)))
	})
}

func TestY4Mass(t *testing.T) {
	w := start(t)
	a := w.end("F1", framer.Text).logsOn()
	mass := func(id, account, symbol string, side int) api.Msg {
		return api.Msg{Kind: api.MassCancel, ID: id, Account: account, Symbol: symbol, Side: side}
	}
	report := func(id, symbol string, why api.Errno, count int) api.Msg {
		return api.Msg{Kind: api.MassReport, ID: id, Symbol: symbol, Reason: int(why), Count: count}
	}
	for _, account := range []string{"B1", "Z", "NOBODY"} {
		a.says(mass("m", account, "XY", api.Buy), mass("m", account, "", 0))
		a.hears(report("m", "XY", api.ErrAccount, 0), report("m", "", api.ErrAccount, 0))
		w.commands()
	}
	a.says(mass("m", "", "", 0), mass("m2", "A1", "NONE", 0), mass("m3", "GHOST", "ABC", api.Sell))
	a.hears(report("m", "", api.OK, 0), report("m2", "NONE", api.ErrSymbol, 0), report("m3", "ABC", api.ErrAccount, 0))
	w.commands(owner1(api.DoMass, "", api.Order{Name: "m"}), owner1(api.DoMass, "", api.Order{Name: "m2", Account: "A1", Symbol: "NONE"}), owner1(api.DoMass, "", api.Order{Name: "m3", Account: "GHOST", Symbol: "ABC", Side: api.Sell}))
	o, p := limit("o", "A1", api.Buy, 5, 90), limit("p", "A2", api.Sell, 5, 110)
	a.says(o, p, mass("m", "", "", api.Sell), mass("m", "A1", "ABC", api.Buy))
	a.hears(happened(o, 1, 1, 1, 1, 5, 0), happened(p, 1, 1, 2, 2, 5, 0),
		happened(p, 4, 4, 3, 2, 0, 0), report("m", "", api.OK, 1),
		happened(o, 4, 4, 4, 1, 0, 0), report("m", "ABC", api.OK, 1))
}

func TestY4AskStatus(t *testing.T) {
	w := start(t)
	a, b := w.end("F1", framer.Text).logsOn(), w.end("F2", framer.Text).logsOn()
	ask := func(id string) api.Msg {
		return api.Msg{Kind: api.AskStatus, ID: id, Symbol: "NONE", Side: api.Sell} // the engine is asked by the name alone
	}
	none := func() api.Msg {
		return api.Msg{Kind: api.Refused, RefSeq: a.said, RefKind: api.AskStatus, Reason: int(api.ErrNone)}
	}
	a.says(ask("o"))
	a.hears(none())
	o, p := limit("o", "A1", api.Buy, 10, 100), limit("p", "B1", api.Sell, 4, 100)
	o.Show = 5
	a.says(o, ask("o"))
	a.hears(happened(o, 1, 1, 1, 1, 10, 0), happened(o, 8, 1, 2, 1, 10, 0))
	b.says(p)
	a.says(ask("o"), ask("p"))
	a.hears(fill(o, 2, 4, 1, 6, 4, 4, 100), happened(o, 8, 2, 6, 1, 6, 4), none())
	stop := api.Msg{Kind: api.NewOrder, ID: "s", Account: "A2", Symbol: "ABC", Side: api.Sell, Type: api.StopLimit, Life: api.GTC, Price: 80, Stop: 90, Qty: 7}
	a.says(stop, ask("s"))
	a.hears(happened(stop, 1, 1, 7, 2+1, 7, 0), happened(stop, 8, 1, 8, 3, 7, 0))
	a.says(api.Msg{Kind: api.ReplaceOrder, ID: "o2", OrigID: "o", Symbol: "ABC", Side: api.Buy, Qty: 10})
	a.messages()
	a.heard++
	a.says(ask("o"))
	a.hears(none())
	a.says(ask("o2"))
	o.ID = "o2"
	a.hears(happened(o, 8, 2, 10, 1, 6, 4))
	w.g.Commands()
	a.says(ask("o2"))
	w.commands()
}

// TestY4Kinds: a message of a kind that a firm does not send is refused; those of the session's own kinds are not done at all.
func TestY4Kinds(t *testing.T) {
	eachKind(t, func(t *testing.T, kind int) {
		for _, m := range kinds() {
			if m.Kind < api.Execution {
				continue
			}
			w := start(t)
			a := w.end("F1", kind).logsOn()
			a.says(api.Msg{Kind: api.Heartbeat}, m)
			a.hears(api.Msg{Kind: api.Refused, RefSeq: 3, RefKind: m.Kind, Reason: int(api.ErrKind)})
			w.commands()
		}
		w := start(t)
		a := w.end("F1", kind).logsOn()
		a.says(api.Msg{Kind: api.Heartbeat}, api.Msg{Kind: api.Reject, RefSeq: 1}, logon(), api.Msg{Kind: api.SequenceReset, Fill: true, Next: 9})
		a.hears()
		w.commands()
		if in := w.view(1).In; in != 9 {
			t.Errorf("in is %d", in)
		}
	})
}

// TestY4Order: messages that came ahead of their turn are done when it is theirs, in the order of their numbers, each once.
func TestY4Order(t *testing.T) {
	eachKind(t, func(t *testing.T, kind int) {
		w := start(t)
		a := w.end("F1", kind).logsOn()
		o, p, q := limit("o", "A1", api.Buy, 1, 100), limit("p", "A1", api.Buy, 2, 99), limit("q", "A1", api.Buy, 3, 98)
		o.Seq, p.Seq, q.Seq = 2, 3, 4
		a.says(q, p)
		w.commands()
		a.says(o)
		w.commands(owner1(api.DoNew, "", orderOf(o)), owner1(api.DoNew, "", orderOf(p)), owner1(api.DoNew, "", orderOf(q)))
		again := q
		again.Dup = true
		a.says(again)
		w.commands()
		a.hears(api.Msg{Kind: api.ResendRequest, Begin: 2, End: 3},
			happened(o, 1, 1, 1, 1, 1, 0), happened(p, 1, 1, 2, 2, 2, 0), happened(q, 1, 1, 3, 3, 3, 0))
	})
}
