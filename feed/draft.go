package feed

import (
	"slices"

	"outcry/api"
	"outcry/num"
)

// draft is what a feed is about to tell. Nothing of it counts as told until it is known that there are numbers for all its packets.
type draft struct {
	*packer
	instruments []instrument   // as they are behind it
	was         map[spot]depth // the feed's levels, which it lets be
	levels      map[spot]depth // those that it changes, as they are behind it
}

func (f *Feed) draft(now int64) *draft {
	return &draft{packer: newPacker(now), instruments: slices.Clone(f.instruments), was: f.levels, levels: map[spot]depth{}}
}

// take tells an event, if it is one that is told (D2).
func (d *draft) take(e api.Event) {
	place := slices.IndexFunc(d.instruments, func(x instrument) bool { return x.symbol == e.Symbol })
	if place < 0 {
		return
	}
	switch e.Kind {
	case api.EvTrade:
		if e.Side == api.Buy {
			d.trade(place, e.F.Price, e.F.Qty)
		}
	case api.EvPhase:
		d.instruments[place].phase = e.Phase
		d.add(phaseNotice(place, e.Phase))
	case api.EvAuction:
		d.add(auctionNotice(place, e.Level.Price, e.Level.Qty, e.F.Qty, e.Side))
	case api.EvLevel:
		d.level(spot{place, e.Side, e.Level.Price}, depth{e.Level.Qty, e.Level.Orders})
	}
}

func (d *draft) trade(place int, price, qty int64) {
	x := &d.instruments[place]
	x.traded, x.price, x.qty = true, price, qty
	if all, ok := num.Add(x.all, qty); ok {
		x.all = all
	}
	d.add(tradeNotice(place, price, qty))
}

func (d *draft) level(at spot, is depth) {
	if at.side != api.Buy && at.side != api.Sell || at.price < 1 || at.price > api.MaxPrice {
		return
	}
	if is.orders < 1 {
		is = depth{}
	}
	was := d.told(at)
	if is == was {
		return
	}
	d.levels[at] = is
	d.add(levelNotice(at, was, is))
}

// told is what was told of a level, by this draft or ahead of it.
func (d *draft) told(at spot) depth {
	if is, ok := d.levels[at]; ok {
		return is
	}
	return d.was[at]
}
