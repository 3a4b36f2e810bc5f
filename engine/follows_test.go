package engine

import (
	"cmp"
	"slices"
	"testing"

	"outcry/api"
)

// watcher follows the events alone, and holds what the chapter says follows, and P8 and P9 of DOC.md.
type watcher struct {
	t      *testing.T
	w      *walker
	orders map[int]*watched
	levels map[watchedLevel]api.Level
	moved  map[[2]string]int64 // by account and symbol
	phases map[string]int
	rank   int
	seen   map[string]int
}

type watched struct {
	api.Order
	all    int64 // what it is to be in all
	waits  bool  // in the book
	over   bool
	rank   int
	hidden bool // a part of it is shown: then only the book knows its rank
}

type watchedLevel struct {
	symbol string
	side   int
	price  int64
}

func newWatcher(t *testing.T, w *walker) *watcher {
	return &watcher{t: t, w: w, orders: map[int]*watched{}, levels: map[watchedLevel]api.Level{}, moved: map[[2]string]int64{}, phases: map[string]int{}, seen: map[string]int{}}
}

// hears goes through what has come of one command.
func (v *watcher) hears(l []api.Event) {
	v.t.Helper()
	for n, x := range l {
		v.hearsOne(l, n, x)
	}
	v.holdsLevels()
	v.holdsApart()
	v.holdsPositions()
}

func (v *watcher) hearsOne(l []api.Event, n int, x api.Event) {
	v.t.Helper()
	switch x.Kind {
	case api.EvPhase:
		v.phases[x.Symbol] = x.Phase
	case api.EvLevel:
		key := watchedLevel{x.Symbol, x.Side, x.Level.Price}
		v.levels[key] = x.Level
		if x.Level.Orders == 0 {
			delete(v.levels, key)
		}
	case api.EvAuction:
		v.holdsAuction(x)
	case api.EvRejected, api.EvMass:
	default:
		v.holdsOrder(x)
		if x.Kind == api.EvTrade {
			v.holdsTrade(l, n, x)
		}
	}
}

// holdsOrder: accepted (or triggered) once, then trades, replacements; at last done, cancelled or expired; nothing behind that.
func (v *watcher) holdsOrder(x api.Event) {
	v.t.Helper()
	o := v.orders[x.O.ID]
	if (o == nil) != (x.Kind == api.EvAccepted) {
		v.t.Fatalf("accepted not once: %+v", x)
	}
	if o == nil {
		o = &watched{all: x.O.Qty, hidden: x.O.Show != 0}
		v.orders[x.O.ID] = o
		if x.O.ID != len(v.orders) || x.O.Done != 0 {
			v.t.Fatalf("number: %+v", x)
		}
	}
	if o.over {
		v.t.Fatalf("behind its end: %+v", x)
	}
	was := o.Order
	o.Order = x.O
	switch x.Kind {
	case api.EvAccepted:
		v.comes(o)
	case api.EvTriggered:
		if was.Type != api.Stop && was.Type != api.StopLimit || x.O.Type != 5-was.Type {
			v.t.Fatalf("triggered twice, or no stop: %+v", x)
		}
		v.comes(o)
	case api.EvReplaced:
		o.all = x.O.Qty + x.O.Done
		if o.Type < api.Stop && (x.O.Price != was.Price || x.O.Qty > was.Qty) {
			v.comes(o)
		}
	case api.EvCancelled, api.EvExpired:
		o.over, o.waits = true, false
	case api.EvTrade:
		o.over = o.Qty == 0
		o.waits = o.waits && !o.over
	}
	if o.Qty+o.Done != o.all {
		v.t.Fatalf("%d were to be in all: %+v", o.all, x)
	}
	if x.Owner != x.O.Owner || x.Name != x.O.Name || x.Symbol != x.O.Symbol || x.Side != x.O.Side {
		v.t.Fatalf("an event of two orders: %+v", x)
	}
}

// comes lets an order wait; whether it does at once, or trades ahead of that, its rank is the same.
func (v *watcher) comes(o *watched) {
	v.rank++
	o.rank = v.rank
	o.waits = o.Type < api.Stop
}

// holdsTrade: nobody who was ahead is passed by, and nobody trades beyond their price.
func (v *watcher) holdsTrade(l []api.Event, n int, x api.Event) {
	v.t.Helper()
	v.moved[[2]string{x.O.Account, x.Symbol}] += x.F.Qty * int64(3-2*x.Side)
	if x.Side == api.Sell {
		if n == 0 || l[n-1].Kind != api.EvTrade || l[n-1].Side != api.Buy || l[n-1].F != x.F {
			v.t.Fatalf("a seller without a buyer: %+v", x)
		}
		return
	}
	if n+1 == len(l) || l[n+1].Kind != api.EvTrade || l[n+1].Side != api.Sell || l[n+1].F != x.F || l[n+1].Symbol != x.Symbol {
		v.t.Fatalf("a buyer without a seller: %+v", x)
	}
	y := l[n+1]
	if x.F.Buy != x.O.ID || x.F.Sell != y.O.ID || x.F.Qty < 1 {
		v.t.Fatalf("a fill of others: %+v, %+v", x, y)
	}
	if x.O.Price != 0 && x.F.Price > x.O.Price || y.O.Price != 0 && x.F.Price < y.O.Price {
		v.t.Fatalf("beyond their price: %+v, %+v", x, y)
	}
	if (v.phases[x.Symbol] == api.Trading) != (x.F.Taker != 0) {
		v.t.Fatalf("an auction's, or not: %+v, phase %d", x, v.phases[x.Symbol])
	}
	if x.F.Taker == api.Buy {
		v.holdsAhead(x.O, y.O, x.F)
	} else if x.F.Taker == api.Sell {
		v.holdsAhead(y.O, x.O, x.F)
	}
}

// holdsAhead: of those that wait, and are of another account, the one that trades is ahead of all.
func (v *watcher) holdsAhead(taker, maker api.Order, f api.Fill) {
	v.t.Helper()
	if taker.Account == maker.Account || maker.Price != f.Price {
		v.t.Fatalf("%+v with %+v: %+v", taker, maker, f)
	}
	m := v.orders[maker.ID]
	for _, o := range v.orders {
		if o == m || !o.waits || o.Symbol != maker.Symbol || o.Side != maker.Side || o.Account == taker.Account {
			continue
		}
		if better := (o.Price < maker.Price) == (o.Side == api.Sell); o.Price != maker.Price && better {
			v.t.Fatalf("%+v is passed by: %+v with %+v", o.Order, taker, maker)
		}
		if o.Price == maker.Price && o.rank < m.rank && !o.hidden && !m.hidden {
			v.t.Fatalf("%+v has waited longer: %+v with %+v", o.Order, taker, maker)
		}
	}
	v.seen["trades in turn"]++
}

// holdsAuction: at no price is more traded, nor as much with less left over (P9).
func (v *watcher) holdsAuction(x api.Event) {
	v.t.Helper()
	at := func(price int64) (traded, over int64, side int) {
		var bought, sold int64
		for _, o := range v.orders {
			switch {
			case !o.waits || o.Symbol != x.Symbol:
			case o.Side == api.Buy && (o.Type == api.Market || o.Price >= price):
				bought += o.Qty
			case o.Side == api.Sell && (o.Type == api.Market || o.Price <= price):
				sold += o.Qty
			}
		}
		return min(bought, sold), max(bought, sold) - min(bought, sold), cmp.Compare(bought, sold)
	}
	traded, over, side := at(x.Level.Price)
	if traded != x.Level.Qty || over != x.F.Qty || []int{api.Sell, 0, api.Buy}[side+1] != x.Side || traded < 1 {
		v.t.Fatalf("%+v: traded %d, over %d", x, traded, over)
	}
	// Between the prices of orders, and of the reference, nothing changes: all whole numbers about them are asked.
	for price := int64(1); price < 300; price++ {
		t, o, _ := at(price)
		if t > traded || t == traded && o < over && v.isCandidate(x.Symbol, price) {
			v.t.Fatalf("%+v: at %d %d are traded, and %d over", x, price, t, o)
		}
	}
	v.seen["auctions"]++
}

func (v *watcher) isCandidate(symbol string, price int64) bool {
	for _, o := range v.orders {
		if o.waits && o.Symbol == symbol && o.Price == price {
			return true
		}
	}
	return false
}

// holdsLevels: what EvLevel told, one over the other, is Depth.
func (v *watcher) holdsLevels() {
	v.t.Helper()
	for _, i := range v.w.ins {
		for side := api.Buy; side <= api.Sell; side++ {
			var want []api.Level
			for key, x := range v.levels {
				if key.symbol == i.Symbol && key.side == side {
					want = append(want, x)
				}
			}
			slices.SortFunc(want, func(a, b api.Level) int { return cmp.Compare(a.Price, b.Price) * (2*side - 3) })
			if got, err := v.w.e.Depth(i.Symbol, side); !slices.Equal(got, want) || err != api.OK {
				v.t.Fatalf("%s, side %d: %+v, the events say %+v", i.Symbol, side, got, want)
			}
		}
	}
}

// holdsApart: in Trading no buyer's price is at or above a seller's of another account; and what waits is what the events say.
func (v *watcher) holdsApart() {
	v.t.Helper()
	waits := 0
	for _, o := range v.orders {
		if o.waits {
			waits++
		}
	}
	for _, i := range v.w.e.instruments {
		buys, sells := i.book.Orders(api.Buy), i.book.Orders(api.Sell)
		waits -= len(buys) + len(sells)
		if i.phase != api.Trading {
			continue
		}
		for _, b := range buys {
			for _, s := range sells {
				if b.Account != s.Account && b.Price >= s.Price {
					v.t.Fatalf("they meet: %+v, %+v", b, s)
				}
			}
		}
		if len(buys) > 0 && len(sells) > 0 {
			v.seen["books apart"]++
		}
	}
	if waits != 0 {
		v.t.Fatalf("by the events %d more orders wait", waits)
	}
}

// holdsPositions: positions of the guard are the sums of the trades.
func (v *watcher) holdsPositions() {
	v.t.Helper()
	for key, want := range v.moved {
		if _, got, err := v.w.e.guard.Look(key[0], key[1]); got != want || err != api.OK {
			v.t.Fatalf("position of %v: %d, the trades say %d", key, got, want)
		}
	}
}

func TestWhatFollows(t *testing.T) {
	seen := map[string]int{}
	for seed := range int64(400) {
		w := newWalker(1000 + seed)
		v := newWatcher(t, w)
		v.seen = seen
		for range 300 {
			l := w.e.Do(w.command())
			w.hears(l)
			v.hears(l)
		}
	}
	for _, what := range []string{"trades in turn", "auctions", "books apart"} {
		if seen[what] < 100 {
			t.Errorf("%s: only %d were met", what, seen[what])
		}
	}
}
