package auction

import (
	"cmp"
	"slices"

	"outcry/api"
)

// point is a candidate, and what is bought and sold there.
type point struct {
	price, bought, sold int64
}

func (p point) traded() int64 { return min(p.bought, p.sold) }

func (p point) over() int64 { return max(p.bought, p.sold) - p.traded() }

// side is the one that has more than the other, 0 if none has.
func (p point) side() int {
	switch {
	case p.bought > p.sold:
		return api.Buy
	case p.bought < p.sold:
		return api.Sell
	default:
		return 0
	}
}

// candidates gives the prices of two rows and the reference (0: there is none), from the least on, each once.
func candidates(buys, sells []want, reference int64) []int64 {
	prices := []int64{reference}
	for _, row := range [][]want{buys, sells} {
		for _, w := range row {
			prices = append(prices, w.price)
		}
	}
	slices.Sort(prices)
	return slices.DeleteFunc(slices.Compact(prices), func(p int64) bool { return p == 0 })
}

// points gives the candidates, from the least on. With the price who buys goes, from the end of the row, and who sells comes, from its beginning: so each order is met once.
func points(buys, sells []want, reference int64) []point {
	var list []point
	bought, sold := int64(0), int64(0)
	for _, w := range buys {
		bought += w.qty
	}
	for _, p := range candidates(buys, sells, reference) {
		for len(buys) > 0 && !buys[len(buys)-1].at(api.Buy, p) {
			bought -= buys[len(buys)-1].qty
			buys = buys[:len(buys)-1]
		}
		for len(sells) > 0 && sells[0].at(api.Sell, p) {
			sold += sells[0].qty
			sells = sells[1:]
		}
		list = append(list, point{p, bought, sold})
	}
	return list
}

// better holds two points against each other: below 0, if at a more is traded, or as much and less is over.
func better(a, b point) int {
	return cmp.Or(cmp.Compare(b.traded(), a.traded()), cmp.Compare(a.over(), b.over()))
}

// bestOf gives those of the points, in their order, than which none is better; none, if nothing is traded at any.
func bestOf(list []point) []point {
	var best []point
	for _, p := range list {
		if p.traded() == 0 || len(best) > 0 && better(p, best[0]) > 0 {
			continue
		}
		if len(best) > 0 && better(p, best[0]) < 0 {
			best = best[:0]
		}
		best = append(best, p)
	}
	return best
}

// chosen gives the one of the best points, which rise, that U3 says.
func chosen(best []point, reference int64) point {
	if all(best, api.Buy) {
		return best[len(best)-1]
	}
	if all(best, api.Sell) {
		return best[0]
	}
	return nearest(best, reference)
}

// all tells whether one side has more at all of the points.
func all(list []point, side int) bool {
	return !slices.ContainsFunc(list, func(p point) bool { return p.side() != side })
}

// nearest gives the point nearest to a price; of two that are as near the later one, which is the greater one.
func nearest(list []point, price int64) point {
	near := list[0]
	for _, p := range list {
		if far(p.price, price) <= far(near.price, price) {
			near = p
		}
	}
	return near
}

func far(a, b int64) int64 { return max(a-b, b-a) }
