package gateway

import "outcry/api"

// do does a message of a firm, whose turn it is (Y4).
func (g *Gateway) do(f *firm, m api.Msg) {
	switch m.Kind {
	case api.NewOrder:
		g.newOrder(f, m)
	case api.CancelOrder:
		o := api.Order{Name: m.ID, Symbol: m.Symbol, Side: m.Side}
		g.command(api.Command{Kind: api.DoCancel, Owner: f.place, Name: m.OrigID, O: o})
	case api.ReplaceOrder:
		o := api.Order{Name: m.ID, Symbol: m.Symbol, Side: m.Side, Price: m.Price, Stop: m.Stop, Qty: m.Qty}
		g.command(api.Command{Kind: api.DoReplace, Owner: f.place, Name: m.OrigID, O: o})
	case api.MassCancel:
		g.massCancel(f, m)
	case api.AskStatus:
		g.askStatus(f, m)
	default:
		g.refuse(f, m, api.ErrKind)
	}
}

// newOrder lets an order come, if it is of an account of the firm's own.
func (g *Gateway) newOrder(f *firm, m api.Msg) {
	o := api.Order{
		Name: m.ID, Account: m.Account, Symbol: m.Symbol,
		Side: m.Side, Type: m.Type, Life: m.Life,
		Price: m.Price, Stop: m.Stop,
		Qty: m.Qty, Show: m.Show, Least: m.Least, Until: m.Until,
	}
	if !f.has(m.Account) {
		g.sendExecution(f, execution(rejected, api.Event{Name: o.Name, O: o, Err: api.ErrAccount}))
		return
	}
	g.command(api.Command{Kind: api.DoNew, Owner: f.place, O: o})
}

// massCancel cancels orders of the firm, of all its accounts or of one.
func (g *Gateway) massCancel(f *firm, m api.Msg) {
	if m.Account != "" && !f.has(m.Account) {
		g.send(f, massReport(m.ID, m.Symbol, api.ErrAccount, 0))
		return
	}
	o := api.Order{Name: m.ID, Account: m.Account, Symbol: m.Symbol, Side: m.Side}
	g.command(api.Command{Kind: api.DoMass, Owner: f.place, O: o})
}

// askStatus tells how an order of the firm is.
func (g *Gateway) askStatus(f *firm, m api.Msg) {
	o, err := g.engine.Order(f.place, m.ID)
	if err != api.OK {
		g.refuse(f, m, api.ErrNone)
		return
	}
	g.sendExecution(f, execution(asked, api.Event{Name: o.Name, O: o, Side: o.Side}))
}

// refuse tells a firm that a message of its was understood, and can't be done.
func (g *Gateway) refuse(f *firm, m api.Msg, why api.Errno) {
	g.send(f, api.Msg{Kind: api.Refused, RefSeq: m.Seq, RefKind: m.Kind, Reason: int(why)})
}

// command has a command done now, and reports what has come of it.
func (g *Gateway) command(c api.Command) {
	c.Time = g.latest
	told := g.engine.Do(c)
	g.commands = append(g.commands, c)
	g.events = append(g.events, told...)
	for _, x := range told {
		g.report(c, x)
	}
}
