package risk

import (
	"outcry/api"
	"outcry/num"
)

const (
	mostAmount = 1000000000000000000 // either way
	mostBurst  = 1000
	mostPer    = 86400000

	noOrder = 0 // the number of none: they begin with 1
)

// account is what the guard knows of one, but for its open orders.
type account struct {
	limits    api.Account
	stopped   bool
	due       int64            // a time, ahead of which only as many commands may come as Burst lets
	positions map[string]int64 // by the symbol; none that is 0
}

// openOrder is what counts of an order that is open.
type openOrder struct {
	account, symbol string
	side            int
	qty, value      int64
}

func newAccount(limits api.Account) *account {
	return &account{limits: limits, positions: map[string]int64{}}
}

// takes tells whether one more command may come now, and counts it, if so.
func (a *account) takes(now int64) bool {
	burst, per := int64(a.limits.Burst), int64(a.limits.Per)
	if burst == 0 || per == 0 {
		return true
	}
	if a.due > now+(burst-1)*per {
		return false
	}
	a.due = max(a.due, now) + per
	return true
}

// move changes the position in an instrument.
func (a *account) move(symbol string, qty int64) {
	position := sum(a.positions[symbol], qty)
	if position == 0 {
		delete(a.positions, symbol)
		return
	}
	a.positions[symbol] = position
}

// isAccount tells whether an account may be.
func isAccount(a api.Account) bool {
	for _, limit := range [...]int64{a.Order, a.Open, a.Position} {
		if !within(limit, 0, mostAmount) {
			return false
		}
	}
	return isName(a.Name) && within(int64(a.Burst), 0, mostBurst) && within(int64(a.Per), 0, mostPer)
}

func isName(s string) bool {
	if len(s) < 1 || len(s) > api.MaxName {
		return false
	}
	for i := range len(s) {
		if c := s[i]; (c < 'A' || c > 'Z') && (c < '0' || c > '9') {
			return false
		}
	}
	return true
}

// isOrder tells whether an order has numbers that may be, and so has the mark.
func isOrder(o api.Order, mark int64) bool {
	return within(o.Qty, 1, api.MaxQty) && within(o.Price, 0, api.MaxPrice) && within(mark, 0, api.MaxPrice) && (o.Side == api.Buy || o.Side == api.Sell)
}

// valueOf tells the value of an order; one without a price counts at the mark.
func valueOf(o api.Order, mark int64) int64 {
	price := o.Price
	if price == 0 {
		price = mark
	}
	// Both are within what isOrder lets be: their product is at most 10^15.
	value, _ := num.Mul(o.Qty, price)
	return value
}

// sum adds two amounts, and stays within the greatest one, either way: twice that is still within 64 bits.
func sum(a, b int64) int64 {
	n, _ := num.Add(a, b)
	return min(max(n, -mostAmount), mostAmount)
}

func within(n, least, most int64) bool { return least <= n && n <= most }
