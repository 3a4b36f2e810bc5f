package book

import "outcry/api"

// refusesToTrade tells why an order may not come to trade (K2).
func (b *Book) refusesToTrade(o api.Order) api.Errno {
	switch {
	case !b.isOrder(o):
		return api.ErrArg
	case !isTyped(o) || o.Life == api.AtOpen:
		return api.ErrType
	case b.byID[o.ID] != nil:
		return api.ErrKnown
	case b.full() && mayWait(o):
		return api.ErrMany
	case o.Life == api.PostOnly && b.crosses(o):
		return api.ErrCross
	case b.partnersHave(o) < need(o):
		return api.ErrFill
	}
	return api.OK
}

// refusesToRest tells why an order may not come to wait at once (K7).
func (b *Book) refusesToRest(o api.Order) api.Errno {
	switch {
	case !b.isOrder(o):
		return api.ErrArg
	case !isTyped(o) || isBrief(o):
		return api.ErrType
	case b.byID[o.ID] != nil:
		return api.ErrKnown
	case b.full():
		return api.ErrMany
	}
	return api.OK
}

// full tells whether as many orders wait as may.
func (b *Book) full() bool { return len(b.byID) >= api.MaxOrders }

// isOrder tells whether what an order says of itself may be, whatever its type.
func (b *Book) isOrder(o api.Order) bool {
	return o.ID >= 1 && o.Symbol == b.symbol && o.Account != "" &&
		(o.Side == api.Buy || o.Side == api.Sell) &&
		isQty(o.Qty) && within(o.Done, 0, api.MaxQty) &&
		within(o.Show, 0, o.Qty) && showsEnough(o.Show, o.Qty) &&
		within(o.Least, 0, o.Qty) &&
		o.Life >= api.Day && o.Life <= api.PostOnly
}

// isTyped tells whether an order is of a type that a book takes, with the price and the life that go with it.
func isTyped(o api.Order) bool {
	switch o.Type {
	case api.Limit:
		return isPrice(o.Price)
	case api.Market:
		return o.Price == 0 && o.Life != api.PostOnly
	}
	return false
}

// isBrief tells whether an order is done with at once, filled or not.
func isBrief(o api.Order) bool { return o.Life == api.IOC || o.Life == api.FOK }

// mayWait tells whether what is left of an order that came to trade waits.
func mayWait(o api.Order) bool { return o.Type == api.Limit && !isBrief(o) }

// need is how much of an order must be filled at once.
func need(o api.Order) int64 {
	if o.Life == api.FOK {
		return o.Qty
	}
	return o.Least
}

// mayBecome tells whether an order that waits may get a price and a quantity.
func mayBecome(o api.Order, price, qty int64) bool {
	if !isQty(qty) || !showsEnough(o.Show, qty) {
		return false
	}
	if o.Type == api.Market {
		return price == 0
	}
	return isPrice(price)
}

// replaced is an order with another price and quantity.
func replaced(o api.Order, price, qty int64) api.Order {
	o.Price, o.Qty = price, qty
	o.Show, o.Least = min(o.Show, qty), min(o.Least, qty)
	return o
}

// canFill tells whether a fill's numbers may be, whatever its orders.
func canFill(f api.Fill) bool { return isQty(f.Qty) && isPrice(f.Price) }

func isQty(q int64) bool { return within(q, 1, api.MaxQty) }

func isPrice(p int64) bool { return within(p, 1, api.MaxPrice) }

func within(x, low, high int64) bool { return low <= x && x <= high }

// showsEnough tells whether a part that is shown at once is none, or at least a hundredth.
func showsEnough(show, qty int64) bool { return show == 0 || 100*show >= qty }
