package listing

import (
	"outcry/api"
	"outcry/clock"
)

// leastShown: an order that shows a part of itself shows at least one in so many.
const leastShown = 100

// Check tells whether an order may come in a phase (L4).
func (l *Listing) Check(o api.Order, phase int, reference int64, date int) api.Errno {
	switch {
	case !isOrder(o, date):
		return api.ErrType
	case !l.fitsLots(o):
		return api.ErrLot
	case !l.fitsTicks(o.Price) || !l.fitsTicks(o.Stop):
		return api.ErrTick
	case !l.fitsBand(o.Price, reference):
		return api.ErrBand
	case !fitsPhase(o, phase):
		return api.ErrPhase
	}
	return api.OK
}

// isOrder tells whether what stands in an order fits together, whatever the instrument.
func isOrder(o api.Order, date int) bool {
	return within(o.Side, api.Buy, api.Sell) && within(o.Life, api.Day, api.PostOnly) &&
		fitsType(o) && fitsShow(o) && fitsLeast(o) && fitsUntil(o, date)
}

func fitsType(o api.Order) bool {
	switch o.Type {
	case api.Limit:
		return o.Price > 0 && o.Stop == 0
	case api.Market:
		return o.Price == 0 && o.Stop == 0 && (isAtOnce(o.Life) || o.Life == api.AtOpen)
	case api.Stop:
		return o.Price == 0 && o.Stop > 0 && isLasting(o.Life)
	case api.StopLimit:
		return o.Price > 0 && o.Stop > 0 && isLasting(o.Life)
	}
	return false
}

func fitsShow(o api.Order) bool {
	if o.Show == 0 {
		return true
	}
	return o.Show > 0 && o.Type == api.Limit && (isLasting(o.Life) || o.Life == api.PostOnly)
}

func fitsLeast(o api.Order) bool {
	if o.Least == 0 {
		return true
	}
	return o.Least > 0 && (o.Type == api.Limit || o.Type == api.Market) && (isLasting(o.Life) || o.Life == api.IOC)
}

func fitsUntil(o api.Order, date int) bool {
	if o.Life != api.GTD {
		return o.Until == 0
	}
	_, e := clock.Start(o.Until)
	return e == api.OK && o.Until >= date
}

// isLasting: it may trade at once, and what is left waits.
func isLasting(life int) bool {
	return life == api.Day || life == api.GTC || life == api.GTD
}

// isAtOnce: it never waits.
func isAtOnce(life int) bool { return life == api.IOC || life == api.FOK }

// fitsLots is asked of what isOrder lets through: Show and Least are not below 0.
func (l *Listing) fitsLots(o api.Order) bool {
	if !within(o.Qty, 1, l.instrument.Most) || o.Show > o.Qty || o.Least > o.Qty {
		return false
	}
	for _, part := range [3]int64{o.Qty, o.Show, o.Least} {
		if part%l.instrument.Lot != 0 {
			return false
		}
	}
	return o.Show == 0 || o.Show*leastShown >= o.Qty
}

func (l *Listing) fitsTicks(price int64) bool {
	return price == 0 || mayBe(l.instrument.Steps, price)
}

func (l *Listing) fitsBand(price, reference int64) bool {
	least, most := l.Band(reference)
	return price == 0 || within(price, least, most)
}

func fitsPhase(o api.Order, phase int) bool {
	switch phase {
	case api.Trading:
		return o.Life != api.AtOpen
	case api.PreOpen:
		return fitsCall(o)
	case api.Closing:
		return fitsCall(o) && o.Life != api.AtOpen
	}
	return false
}

// fitsCall: ahead of an auction nothing trades, so an order may hang on nothing that is to be, or not to be, at once.
func fitsCall(o api.Order) bool {
	return !isAtOnce(o.Life) && o.Life != api.PostOnly && o.Least == 0
}
