package engine

import (
	"outcry/api"
	"outcry/auction"
)

// follow tells what a book has told, settles it, and lets those come that come alive by it (E7).
func (e *Engine) follow(i *instrument, told []api.Event) {
	for _, x := range told {
		e.tellOrder(x)
	}
	e.bringAlive(i, e.settle(i, told))
}

// settle tells the guard what has come of a call of a book, and gives the stops that come alive by its trades.
func (e *Engine) settle(i *instrument, told []api.Event) []api.Order {
	var alive []api.Order
	for _, x := range told {
		if x.Kind != api.EvTrade {
			continue
		}
		if x.Side == api.Sell { // the second of the two events of a fill
			e.guard.Trade(x.O.Account, i.symbol, -x.F.Qty)
			continue
		}
		e.guard.Trade(x.O.Account, i.symbol, x.F.Qty)
		if i.phase == api.Trading {
			alive = append(alive, i.stops.Trade(x.F.Price)...)
		}
	}
	// An order that is named twice is settled twice, which changes nothing: what counts is how it waits now.
	for _, x := range told {
		if o, err := i.book.Order(x.O.ID); err == api.OK {
			e.guard.Open(o, i.mark())
		} else {
			e.end(x.O.ID)
		}
	}
	return alive
}

// end lets an order live no more.
func (e *Engine) end(id int) {
	e.guard.Done(id)
	delete(e.living, id)
}

// wake lets those stops come that come alive by the last trade.
func (e *Engine) wake(i *instrument) {
	if last := i.book.Last(); i.phase == api.Trading && last != 0 {
		e.bringAlive(i, i.stops.Trade(last))
	}
}

// bringAlive lets stops come, one behind the other, and behind them those that come alive by their trades.
func (e *Engine) bringAlive(i *instrument, row []api.Order) {
	for len(row) > 0 {
		o := row[0]
		e.tellOrder(eventOf(api.EvTriggered, o))
		e.guard.Done(o.ID)
		told := i.book.Add(o)
		for _, x := range told {
			switch x.Kind {
			case api.EvAccepted: // it was told when the stop came
				continue
			case api.EvRejected:
				x.Kind = api.EvCancelled
			}
			e.tellOrder(x)
		}
		row = append(row[1:], e.settle(i, told)...)
	}
}

// auction lets all trade at one price, which is the reference then (E8).
func (e *Engine) auction(i *instrument) {
	buys, sells := i.book.Orders(api.Buy), i.book.Orders(api.Sell)
	r := auction.Price(buys, sells, i.reference)
	if r.Qty == 0 {
		return
	}
	e.tell(api.Event{
		Kind:   api.EvAuction,
		Symbol: i.symbol,
		F:      api.Fill{Qty: r.Over},
		Side:   r.Side,
		Level:  api.Level{Price: r.Price, Qty: r.Qty},
	})
	e.follow(i, i.book.Fill(auction.Fills(buys, sells, r)))
	i.reference = r.Price
}
