package viewer

import (
	"cmp"
	"slices"

	"outcry/api"
	"outcry/num"
)

// market is what is known of all instruments.
type market struct {
	states [api.MaxListing]state // by places
	levels map[spot]depth
}

// state is what is known of an instrument, but for its levels.
type state struct {
	phase           int
	price, qty, all int64 // of the last trade, and of all trades
}

// spot is where a level stands.
type spot struct {
	place, side int
	price       int64
}

// depth is what a level has; one that is not there has nothing.
type depth struct{ qty, orders int64 }

func newMarket() market { return market{levels: map[spot]depth{}} }

// change takes notices of changes in, in order; none of them, and false, if one leaves a level with orders below 0.
func (m *market) change(l []notice) bool {
	states := m.states
	changed := map[spot]depth{} // the levels that are other ones, as they are behind the notices
	right := true
notices:
	for _, n := range l {
		switch n.kind {
		case kindLevel:
			was, ok := changed[n.spot()]
			if !ok {
				was = m.levels[n.spot()]
			}
			is := was.more(n)
			if is.orders < 0 {
				right = false
				break notices
			}
			changed[n.spot()] = is
		case kindTrade:
			states[n.place].trade(n)
		case kindPhase:
			states[n.place].phase = int(n.phase)
		}
	}
	if right {
		m.states = states
		m.setAll(changed)
	}
	return right
}

// show takes the notices of a part of a snapshot in, in order.
func (m *market) show(l []notice) {
	for _, n := range l {
		x := &m.states[n.place]
		switch n.kind {
		case kindLevel:
			m.levels[n.spot()] = depth{n.qty, n.orders}
		case kindPhase:
			x.phase = int(n.phase)
		case kindLast:
			x.price, x.qty, x.all = n.price, n.qty, n.all
		}
	}
}

// more is what a level has behind a notice; without orders it is there no more.
func (d depth) more(n notice) depth {
	d.qty += n.qty
	d.orders += n.orders
	if d.orders == 0 {
		return depth{}
	}
	return d
}

func (x *state) trade(n notice) {
	x.price, x.qty = n.price, n.qty
	if all, ok := num.Add(x.all, n.qty); ok {
		x.all = all
	}
}

func (m *market) setAll(changed map[spot]depth) {
	for at, is := range changed {
		if is.orders == 0 {
			delete(m.levels, at)
		} else {
			m.levels[at] = is
		}
	}
}

// side gives the levels of a side of an instrument, the best first.
func (m *market) side(place, side int) []api.Level {
	var l []api.Level
	for at, is := range m.levels {
		if at.place == place && at.side == side {
			l = append(l, api.Level{Price: at.price, Qty: is.qty, Orders: int(is.orders)})
		}
	}
	slices.SortFunc(l, func(a, b api.Level) int {
		if side == api.Buy {
			a, b = b, a
		}
		return cmp.Compare(a.Price, b.Price)
	})
	return l
}
