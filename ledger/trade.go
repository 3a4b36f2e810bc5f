package ledger

import (
	"slices"

	"outcry/api"
)

const (
	house   = ""
	mostFee = 1000000000000000 // either way
)

// trade is what must be known of one to take it back.
type trade struct {
	symbol, buyer, seller       string
	price, qty, buyFee, sellFee int64
}

func (t trade) mayBe() bool {
	return within(t.price, 1, api.MaxPrice) && within(t.qty, 1, api.MaxQty) && within(t.buyFee, -mostFee, mostFee) && within(t.sellFee, -mostFee, mostFee)
}

// bookings tells what it books, each account once: buyer, seller and house may be one another, and what is too great on the way to their sum does not count.
func (t trade) bookings() []api.Booking {
	value := t.price * t.qty
	parts := [...]api.Booking{
		{Account: t.buyer, Symbol: t.symbol, Qty: t.qty, Cash: -value, Fee: t.buyFee},
		{Account: t.seller, Symbol: t.symbol, Qty: -t.qty, Cash: value, Fee: t.sellFee},
		{Account: house, Symbol: t.symbol, Fee: -t.buyFee - t.sellFee},
	}
	list := make([]api.Booking, 0, len(parts))
	for _, p := range parts {
		i := slices.IndexFunc(list, func(b api.Booking) bool { return b.Account == p.Account })
		if i < 0 {
			list = append(list, p)
			continue
		}
		list[i].Qty += p.Qty
		list[i].Cash += p.Cash
		list[i].Fee += p.Fee
	}
	return list
}

// opposite is what takes a booking away again.
func opposite(b api.Booking) api.Booking {
	b.Qty, b.Cash, b.Fee = -b.Qty, -b.Cash, -b.Fee
	return b
}

func within(n, least, most int64) bool { return least <= n && n <= most }
