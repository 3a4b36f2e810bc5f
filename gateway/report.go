package gateway

import "outcry/api"

// What an Execution says has happened: an event's number, where one tells it.
const (
	accepted  = api.EvAccepted
	rejected  = api.EvRejected
	traded    = api.EvTrade
	cancelled = api.EvCancelled
	replaced  = api.EvReplaced
	triggered = api.EvTriggered
	expired   = api.EvExpired
	asked     = 8 // nothing has
)

// How an order is.
const (
	stateWaits     = 1
	statePart      = 2
	stateDone      = 3
	stateCancelled = 4
	stateRejected  = 5
	stateExpired   = 6
)

// report tells an event of a command to whom it concerns (Y5).
func (g *Gateway) report(c api.Command, x api.Event) {
	if x.Kind == api.EvPhase {
		g.tellPhase(x)
		return
	}
	f := g.firmAt(x.Owner)
	if f == nil {
		return
	}
	switch x.Kind {
	case accepted, traded, cancelled, replaced, triggered, expired:
		m := execution(x.Kind, x)
		if x.Kind == replaced {
			m.OrigID = c.Name
		}
		g.sendExecution(f, m)
	case rejected:
		g.tellRejected(f, c, x)
	case api.EvMass:
		g.send(f, massReport(x.Name, x.Symbol, api.OK, x.Count))
	}
}

// tellPhase tells the firms that are there of a phase; for others it would be stale.
func (g *Gateway) tellPhase(x api.Event) {
	for _, f := range g.firms {
		if f.View().State == api.Up {
			g.send(f, api.Msg{Kind: api.Status, Symbol: x.Symbol, Phase: x.Phase})
		}
	}
}

// tellRejected tells a firm that its command was not done.
func (g *Gateway) tellRejected(f *firm, c api.Command, x api.Event) {
	switch c.Kind {
	case api.DoNew:
		g.sendExecution(f, execution(rejected, x))
	case api.DoCancel, api.DoReplace:
		g.send(f, g.cancelReject(c, x.Err))
	case api.DoMass:
		g.send(f, massReport(c.O.Name, c.O.Symbol, x.Err, 0))
	}
}

// cancelReject tells why an order was not cancelled or replaced, and how it is.
func (g *Gateway) cancelReject(c api.Command, why api.Errno) api.Msg {
	m := api.Msg{Kind: api.CancelReject, ID: c.O.Name, OrigID: c.Name, Reason: int(why), State: stateRejected}
	if o, err := g.engine.Order(c.Owner, c.Name); err == api.OK {
		m.OrderID, m.State = o.ID, stateOf(asked, o)
	}
	return m
}

func massReport(id, symbol string, why api.Errno, count int) api.Msg {
	return api.Msg{Kind: api.MassReport, ID: id, Symbol: symbol, Reason: int(why), Count: count}
}

// sendExecution gives an Execution its number, which is taken even if it is not sent, and sends it.
func (g *Gateway) sendExecution(f *firm, m api.Msg) {
	g.executions++
	m.ExecID = g.executions
	g.send(f, m)
}

// execution tells what has happened to the order of an event (Y6).
func execution(exec int, x api.Event) api.Msg {
	o := x.O
	m := api.Msg{
		Kind: api.Execution, Exec: exec, State: stateOf(exec, o),
		ID: x.Name, OrderID: o.ID, Account: o.Account, Symbol: o.Symbol,
		Side: x.Side, Type: o.Type, Life: o.Life,
		Price: max(o.Price, 0), Stop: max(o.Stop, 0), Show: max(o.Show, 0),
		Qty: o.Qty + o.Done, Left: o.Qty, Done: o.Done,
	}
	switch exec {
	case traded:
		m.LastPrice, m.LastQty = x.F.Price, x.F.Qty
	case cancelled, expired:
		m.Left = 0
	case rejected:
		m.Side, m.OrderID, m.Left, m.Reason = o.Side, 0, 0, int(x.Err)
	}
	return m
}

// stateOf tells how an order is, to which something has happened.
func stateOf(exec int, o api.Order) int {
	switch exec {
	case accepted:
		return stateWaits
	case rejected:
		return stateRejected
	case cancelled:
		return stateCancelled
	case expired:
		return stateExpired
	case traded:
		if o.Qty == 0 {
			return stateDone
		}
		return statePart
	}
	if o.Done > 0 {
		return statePart
	}
	return stateWaits
}
