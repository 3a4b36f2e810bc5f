package engine

import (
	"cmp"
	"slices"

	"outcry/api"
	"outcry/book"
	"outcry/clock"
	"outcry/listing"
	"outcry/stops"
)

// instrument is what the engine knows of one.
type instrument struct {
	symbol    string
	listing   *listing.Listing
	book      *book.Book
	stops     *stops.Stops
	phase     int
	reference int64
	held      bool // it was halted by hand
}

// listed makes the instruments of a list, by their places.
func listed(l []api.Instrument, c *clock.Calendar) ([]*instrument, api.Errno) {
	if len(l) < 1 || len(l) > api.MaxListing {
		return nil, api.ErrListing
	}
	var made []*instrument
	for _, x := range l {
		rules, err := listing.New(x, c)
		if err != api.OK {
			return nil, err
		}
		if slices.ContainsFunc(made, func(i *instrument) bool { return i.symbol == x.Symbol }) {
			return nil, api.ErrListing
		}
		made = append(made, &instrument{
			symbol:    x.Symbol,
			listing:   rules,
			book:      book.New(x.Symbol),
			stops:     stops.New(),
			phase:     api.Closed,
			reference: x.Reference,
		})
	}
	return made, api.OK
}

// mark is the price at which what has no price is counted.
func (i *instrument) mark() int64 {
	if last := i.book.Last(); last != 0 {
		return last
	}
	return i.reference
}

// order gives an order that waits in the book or among the stops.
func (i *instrument) order(id int) api.Order {
	if o, err := i.book.Order(id); err == api.OK {
		return o
	}
	o, _ := i.stops.Order(id)
	return o
}

// orders gives all that wait in the book and among the stops, by their numbers.
func (i *instrument) orders() []api.Order {
	l := slices.Concat(i.book.Orders(api.Buy), i.book.Orders(api.Sell), i.stops.Orders())
	slices.SortFunc(l, func(a, b api.Order) int { return cmp.Compare(a.ID, b.ID) })
	return l
}

// take hands an order that may come in this phase to the book.
func (i *instrument) take(o api.Order) []api.Event {
	if i.phase == api.Trading {
		return i.book.Add(o)
	}
	return i.book.Rest(o)
}

// change puts an order in the place of x, which waits in the book with the same number.
func (i *instrument) change(x, o api.Order) ([]api.Event, api.Errno) {
	if i.phase == api.Trading || o.Price == x.Price && o.Qty <= x.Qty {
		return i.book.Replace(x.ID, o.Price, o.Qty)
	}
	// Replace would let it trade. Rest does not refuse it: the listing took it, and its place in the book is free again.
	i.book.Cancel(x.ID)
	told := i.book.Rest(within(o, o.Qty))
	told[0].Kind = api.EvReplaced
	return told, api.OK
}

// within gives an order that shows no more, and needs no more at once, than a quantity.
func within(o api.Order, qty int64) api.Order {
	o.Show, o.Least = min(o.Show, qty), min(o.Least, qty)
	return o
}

// isStop tells whether an order waits for a price, or is to.
func isStop(o api.Order) bool { return o.Type == api.Stop || o.Type == api.StopLimit }
