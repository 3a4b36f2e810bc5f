package auction

import (
	"cmp"
	"slices"

	"outcry/api"
)

// want is what counts of an order here; the list that it came in says its side.
type want struct {
	id     int
	market bool
	price  int64 // 0 of a Market order, whose price is not looked at
	qty    int64 // what is left of it
}

func isPrice(p int64) bool {
	return p >= 1 && p <= api.MaxPrice
}

// counted gives the orders of a list that count, in its order.
func counted(orders []api.Order) []want {
	var wants []want
	for _, o := range orders {
		if o.Qty < 1 || o.Qty > api.MaxQty {
			continue
		}
		if o.Type == api.Market {
			wants = append(wants, want{id: o.ID, market: true, qty: o.Qty})
		} else if isPrice(o.Price) {
			wants = append(wants, want{id: o.ID, price: o.Price, qty: o.Qty})
		}
	}
	return wants
}

// at tells whether an order of a side would trade at a price.
func (w want) at(side int, price int64) bool {
	switch {
	case w.market:
		return true
	case side == api.Buy:
		return w.price >= price
	default:
		return w.price <= price
	}
}

func sumAt(wants []want, side int, price int64) int64 {
	sum := int64(0)
	for _, w := range wants {
		if w.at(side, price) {
			sum += w.qty
		}
	}
	return sum
}

// ahead gives what holds two orders of a side against each other: below 0, if a stands ahead of b.
func ahead(side int) func(a, b want) int {
	return func(a, b want) int {
		if a.market != b.market {
			if a.market {
				return -1
			}
			return 1
		}
		if side == api.Buy {
			return cmp.Or(cmp.Compare(b.price, a.price), cmp.Compare(a.id, b.id))
		}
		return cmp.Or(cmp.Compare(a.price, b.price), cmp.Compare(a.id, b.id))
	}
}

// rowOf gives the orders of a side that count as they stand in a row; those that are alike stay in the order of their list.
func rowOf(orders []api.Order, side int) []want {
	row := counted(orders)
	slices.SortStableFunc(row, ahead(side))
	return row
}

// rowAt gives the row of those that would trade at a price: who would, stands ahead of all who would not.
func rowAt(orders []api.Order, side int, price int64) []want {
	row := rowOf(orders, side)
	end := slices.IndexFunc(row, func(w want) bool { return !w.at(side, price) })
	if end < 0 {
		return row
	}
	return row[:end]
}

// less takes q from the first of a row, who goes when nothing is left.
func less(row []want, q int64) []want {
	row[0].qty -= q
	if row[0].qty == 0 {
		return row[1:]
	}
	return row
}
