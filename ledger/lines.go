package ledger

import (
	"cmp"
	"slices"

	"outcry/api"
)

// place is where something is booked.
type place struct{ account, symbol string }

// amounts is what was booked at a place, added up.
type amounts struct{ qty, cash, fee int64 }

// total is what an account has over all symbols.
type total struct{ money, fees int64 }

// lines has the amounts of places. Where all of them are 0 there is no line, so that what was taken back leaves nothing.
type lines map[place]amounts

func (l lines) add(b api.Booking) {
	at := place{b.Account, b.Symbol}
	sum := l[at]
	sum.qty += b.Qty
	sum.cash += b.Cash
	sum.fee += b.Fee
	if sum == (amounts{}) {
		delete(l, at)
		return
	}
	l[at] = sum
}

// told gives them by accounts, those of one account by symbols.
func (l lines) told() []api.Booking {
	list := make([]api.Booking, 0, len(l))
	for at, sum := range l {
		list = append(list, api.Booking{Account: at.account, Symbol: at.symbol, Qty: sum.qty, Cash: sum.cash, Fee: sum.fee})
	}
	slices.SortFunc(list, func(a, b api.Booking) int {
		return cmp.Or(cmp.Compare(a.Account, b.Account), cmp.Compare(a.Symbol, b.Symbol))
	})
	return list
}
