package stops

import (
	"cmp"
	"slices"

	"outcry/api"
)

// waiter is a stop that waits. A heap has them by price; the turn tells the order in which they wait, both sides alike.
type waiter struct {
	order api.Order
	turn  int
}

// side is api.Buy or api.Sell.
type side int

// ahead tells whether there are trades by which a comes alive, and b does not.
func (s side) ahead(a, b waiter) bool {
	if s == api.Buy {
		return a.order.Stop < b.order.Stop
	}
	return a.order.Stop > b.order.Stop
}

// trade is the price of one.
type trade int64

// wakes tells whether a stop comes alive by the trade.
func (t trade) wakes(w waiter) bool {
	if w.order.Side == api.Buy {
		return int64(t) >= w.order.Stop
	}
	return int64(t) <= w.order.Stop
}

// taken takes the first ones away, as long as they come alive.
func taken(peek, pop func() (waiter, api.Errno), wakes func(waiter) bool) []waiter {
	var list []waiter
	for {
		w, e := peek()
		if e != api.OK || !wakes(w) {
			return list
		}
		pop()
		list = append(list, w)
	}
}

// byTurn gives the orders of waiters, by their turns, of which no two are the same.
func byTurn(list []waiter) []api.Order {
	slices.SortFunc(list, func(a, b waiter) int { return cmp.Compare(a.turn, b.turn) })
	orders := make([]api.Order, len(list))
	for i, w := range list {
		orders[i] = w.order
	}
	return orders
}

// typeAlive tells what a stop becomes.
func typeAlive(kind int) int {
	if kind == api.Stop {
		return api.Market
	}
	return api.Limit
}

// isStop tells whether an order may wait for a price.
func isStop(o api.Order) bool {
	if o.Side != api.Buy && o.Side != api.Sell {
		return false
	}
	if o.ID < 1 || !within(o.Stop, api.MaxPrice) || !within(o.Qty, api.MaxQty) {
		return false
	}
	switch o.Type {
	case api.Stop:
		return o.Price == 0
	case api.StopLimit:
		return within(o.Price, api.MaxPrice)
	}
	return false
}

func within(n, most int64) bool { return 1 <= n && n <= most }
