package client

import (
	"maps"
	"slices"

	"outcry/api"
	"outcry/num"
)

// What an Execution says has happened, where that says more than how the order is.
const (
	traded   = 3
	replaced = 5
)

// order is one that was sent: what a request about it must say, and what reports have told.
type order struct {
	symbol string
	side   int
	view   api.View
}

// Order sends an order (C3).
func (c *Client) Order(m api.Msg, now int64) api.Errno {
	if m.Kind != api.NewOrder {
		return api.ErrKind
	}
	if err := c.send(m, now); err != api.OK {
		return err
	}
	c.orders[m.ID] = &order{symbol: m.Symbol, side: m.Side, view: api.View{Name: m.ID, Left: m.Qty}}
	return api.OK
}

// Cancel asks that an order be cancelled (C4).
func (c *Client) Cancel(name string, fresh string, now int64) api.Errno {
	return c.ask(name, api.Msg{Kind: api.CancelOrder, ID: fresh}, now)
}

// Replace asks for another price and quantity (C4).
func (c *Client) Replace(name string, fresh string, price int64, qty int64, now int64) api.Errno {
	return c.ask(name, api.Msg{Kind: api.ReplaceOrder, ID: fresh, Price: price, Qty: qty}, now)
}

// ask sends a request about the order that is known by a name.
func (c *Client) ask(name string, m api.Msg, now int64) api.Errno {
	o := c.orders[name]
	if o == nil {
		return api.ErrNone
	}
	m.OrigID, m.Symbol, m.Side = name, o.symbol, o.side
	return c.send(m, now)
}

// send sends what has a name of its own, which is used from then on.
func (c *Client) send(m api.Msg, now int64) api.Errno {
	if _, is := c.used[m.ID]; is {
		return api.ErrKnown
	}
	if len(c.used) >= api.MaxNames {
		return api.ErrMany
	}
	if err := c.Send(m, now); err != api.OK {
		return err
	}
	c.used[m.ID] = struct{}{}
	return api.OK
}

// note takes in what an Execution says of an order (C5).
func (c *Client) note(m api.Msg) {
	if m.Exec == replaced {
		c.rename(m.OrigID, m.ID)
	}
	if o := c.orders[m.ID]; o != nil {
		o.note(m)
	}
}

// rename lets an order be known by another name, unless that is another order's. (No order is known by the empty name.)
func (c *Client) rename(was, name string) {
	o := c.orders[was]
	if o == nil || c.orders[name] != nil {
		return
	}
	delete(c.orders, was)
	c.orders[name] = o
	c.used[name] = struct{}{}
	o.view.Name = name
}

func (o *order) note(m api.Msg) {
	v := &o.view
	v.OrderID, v.State, v.Left, v.Done = m.OrderID, m.State, m.Left, m.Done
	if m.Exec != traded {
		return
	}
	// The product itself is small: a message may have no greater numbers.
	if sum, fits := num.Add(v.Value, m.LastPrice*m.LastQty); fits {
		v.Value = sum
	}
}

// Orders gives what it knows of its orders, by their names (C7).
func (c *Client) Orders() []api.View {
	var l []api.View
	for _, name := range slices.Sorted(maps.Keys(c.orders)) {
		l = append(l, c.orders[name].view)
	}
	return l
}
