package book

import (
	"cmp"
	"slices"

	"outcry/api"
)

// waiting is an order that waits.
type waiting struct {
	o     api.Order
	shown int64
	rank  int
}

// has tells whether an order waits on a side with so much left; nil is one that does not wait.
func (w *waiting) has(side int, qty int64) bool {
	return w != nil && w.o.Side == side && w.o.Qty >= qty
}

// standing is less for a price that is ahead of another one of its side; 0, no price, is ahead of all.
func standing(side int, price int64) int64 {
	if side == api.Buy && price != 0 {
		return api.MaxPrice + 1 - price
	}
	return price
}

// byPlace holds two orders of one side against each other: below 0, if a is ahead.
func byPlace(a, b *waiting) int {
	return cmp.Or(
		cmp.Compare(standing(a.o.Side, a.o.Price), standing(b.o.Side, b.o.Price)),
		cmp.Compare(a.rank, b.rank),
	)
}

// priced gives the part of a row that has prices: Market orders stand ahead of it.
func priced(row []*waiting) []*waiting {
	for len(row) > 0 && row[0].o.Price == 0 {
		row = row[1:]
	}
	return row
}

// row gives those that wait on a side, or what is no side.
func (b *Book) row(side int) []*waiting {
	if side != api.Buy && side != api.Sell {
		return nil
	}
	return b.rows[side]
}

// portion is how much of an order is shown at once.
func portion(o api.Order) int64 {
	if o.Show == 0 {
		return o.Qty
	}
	return min(o.Show, o.Qty)
}

// wait lets an order wait, behind all that are alike in price.
func (b *Book) wait(o api.Order) {
	w := &waiting{o: o, shown: portion(o)}
	b.byID[o.ID] = w
	b.enter(w)
}

// remove takes an order out: it waits no more.
func (b *Book) remove(w *waiting) {
	delete(b.byID, w.o.ID)
	b.leave(w)
}

// enter gives an order a new rank, and its place in its row.
func (b *Book) enter(w *waiting) {
	b.rank++
	w.rank = b.rank
	row := b.rows[w.o.Side]
	at, _ := slices.BinarySearchFunc(row, w, byPlace)
	b.rows[w.o.Side] = slices.Insert(row, at, w)
}

// leave takes an order out of its row.
func (b *Book) leave(w *waiting) {
	row := b.rows[w.o.Side]
	at, _ := slices.BinarySearchFunc(row, w, byPlace)
	b.rows[w.o.Side] = slices.Delete(row, at, at+1)
}

// give takes so much away from an order, at the place that it has, and tells whether it is shown anew.
func (b *Book) give(w *waiting, qty int64) bool {
	w.o.Qty -= qty
	w.o.Done += qty
	w.shown = max(w.shown-qty, 0)
	if w.o.Qty == 0 {
		b.remove(w)
		return false
	}
	if w.shown > 0 {
		return false
	}
	w.shown = portion(w.o)
	return true
}
