package book

import (
	"iter"

	"outcry/api"
)

// suits tells whether a price of the other side is one at which an order would trade.
func suits(o api.Order, price int64) bool {
	if o.Price == 0 {
		return true
	}
	if o.Side == api.Buy {
		return price <= o.Price
	}
	return price >= o.Price
}

// suiting goes through the orders of the other side with a price that suits an order, the one that is ahead first. The one that one is at may be taken out, or go behind others, where it is met once more.
func (b *Book) suiting(o api.Order) iter.Seq[*waiting] {
	side := api.Buy + api.Sell - o.Side
	return func(yield func(*waiting) bool) {
		for at := len(b.rows[side]) - len(priced(b.rows[side])); at < len(b.rows[side]); {
			w := b.rows[side][at]
			rank := w.rank // it changes, if the order goes behind others, maybe to this very place
			if !suits(o, w.o.Price) || !yield(w) {
				return
			}
			if at < len(b.rows[side]) && b.rows[side][at].rank == rank {
				at++
			}
		}
	}
}

// crosses tells whether an order of the other side has a price that suits an order, whatever its account.
func (b *Book) crosses(o api.Order) bool {
	for range b.suiting(o) {
		return true
	}
	return false
}

// partnersHave tells how much the partners of an order have, all together.
func (b *Book) partnersHave(o api.Order) int64 {
	var sum int64
	for w := range b.suiting(o) {
		if w.o.Account != o.Account {
			sum += w.o.Qty
		}
	}
	return sum
}

// match lets an order that comes trade with those that wait (K3); gives the order as it is behind that.
func (b *Book) match(o api.Order) (api.Order, []api.Event) {
	var l []api.Event
	for w := range b.suiting(o) {
		if o.Qty == 0 {
			break
		}
		if w.o.Account == o.Account {
			l = append(l, b.cancel(w))
			continue
		}
		qty := min(o.Qty, w.shown)
		o.Qty -= qty
		o.Done += qty
		if b.give(w, qty) {
			b.leave(w)
			b.enter(w)
		}
		buy, sell := o, w.o
		if o.Side == api.Sell {
			buy, sell = w.o, o
		}
		l = append(l, b.traded(buy, sell, api.Fill{Taker: o.Side, Price: w.o.Price, Qty: qty})...)
	}
	return o, l
}

// cancel takes an order out, and tells of it.
func (b *Book) cancel(w *waiting) api.Event {
	b.remove(w)
	return b.event(api.EvCancelled, w.o)
}

// traded tells of a trade, of two orders as they are behind it.
func (b *Book) traded(buy, sell api.Order, f api.Fill) []api.Event {
	b.last = f.Price
	f.Buy, f.Sell = buy.ID, sell.ID
	l := []api.Event{b.event(api.EvTrade, buy), b.event(api.EvTrade, sell)}
	l[0].F, l[1].F = f, f
	return l
}

// rejected tells of a refusal.
func (b *Book) rejected(o api.Order, e api.Errno) api.Event {
	x := b.event(api.EvRejected, o)
	x.Err = e
	return x
}

// event is one of an order.
func (b *Book) event(kind int, o api.Order) api.Event {
	return api.Event{Kind: kind, Symbol: b.symbol, Owner: o.Owner, Name: o.Name, O: o, Side: o.Side}
}
