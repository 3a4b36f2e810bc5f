package engine

import (
	"math"
	"strings"
	"testing"

	"outcry/api"
)

func TestE4CancelInEveryPhase(t *testing.T) {
	w := start(t, preOpen)
	gtc := life(api.GTC)
	names := []string{"a", "b", "c", "d", "e"}
	for n, name := range names {
		w.e.Do(order(1, name, "A", int64(n+1), 90, gtc))
		w.e.Do(order(1, "s"+name, "A", int64(n+1), 0, stop(120), gtc))
	}
	w.does(cancel(1, "a"), "cancelled ABC 1/a#1 1@90", "ABC buy 90: 14 of 4")
	w.does(cancel(1, "sa"), "cancelled ABC 1/sa#2 1@0")
	w.goes(trading, "ABC Opening", "ABC Trading")
	w.does(cancel(1, "b"), "cancelled ABC 1/b#3 2@90", "ABC buy 90: 12 of 3")
	w.does(cancel(1, "sb"), "cancelled ABC 1/sb#4 2@0")
	w.does(halt("ABC"), "ABC Halted")
	w.does(cancel(1, "c"), "cancelled ABC 1/c#5 3@90", "ABC buy 90: 9 of 2")
	w.does(cancel(1, "sc"), "cancelled ABC 1/sc#6 3@0")
	w.does(resume("ABC"), "ABC Opening", "ABC Trading")
	w.goes(closing, "ABC Closing")
	w.does(cancel(1, "d"), "cancelled ABC 1/d#7 4@90", "ABC buy 90: 5 of 1")
	w.does(cancel(1, "sd"), "cancelled ABC 1/sd#8 4@0")
	w.goes(closed, "ABC Closed")
	w.checkGuard("A", 5*90+5*100, 0)
	w.does(cancel(1, "e"), "cancelled ABC 1/e#9 5@90", "ABC buy 90: 0 of 0")
	w.does(cancel(1, "se"), "cancelled ABC 1/se#10 5@0")
	w.checkGuard("A", 0, 0)
	for _, name := range names {
		w.checkOver(1, name)
		w.checkOver(1, "s"+name)
		w.does(cancel(1, name), "refused  1/"+name+" by 121")
	}
}

func TestE4CancelOfNone(t *testing.T) {
	w := start(t, trading)
	w.does(order(1, "a", "A", 5, 90), "accepted ABC 1/a#1 5@90", "ABC buy 90: 5 of 1")
	w.does(order(1, "s", "A", 5, 0, stop(120)), "accepted ABC 1/s#2 5@0")
	for _, c := range []api.Command{cancel(2, "a"), cancel(0, "a"), cancel(-1, "a"), cancel(1, "A"), cancel(1, ""), cancel(1, strings.Repeat("a", 100000)), cancel(2, "s")} {
		w.tells(c, refusedBy(c, c.Name, api.ErrNone))
	}
	// What the command's order says does not count.
	c := cancel(1, "a")
	c.O = api.Order{ID: 2, Name: "s", Symbol: "NO", Account: "NO", Side: 7, Qty: -1}
	w.does(c, "cancelled ABC 1/a#1 5@90", "ABC buy 90: 0 of 0")
	w.does(cancel(1, "a"), "refused  1/a by 121")
	w.does(order(1, "d", "A", 5, 90), "accepted ABC 1/d#3 5@90", "ABC buy 90: 5 of 1")
	w.does(order(2, "e", "B", -5, 90), "accepted ABC 2/e#4 5@90", "traded ABC 1/d#3 0@90: buy 5@90", "traded ABC 2/e#4 0@90: sell 5@90", "ABC buy 90: 0 of 0")
	w.does(cancel(1, "d"), "refused  1/d by 121")
	w.does(cancel(2, "e"), "refused  2/e by 121")
}

func TestE4CancelIsTold(t *testing.T) {
	w := start(t, trading)
	a := order(1, "a", "A", 5, 90, show(2))
	s := order(1, "s", "A", 5, 121, stop(120))
	w.does(a, "accepted ABC 1/a#1 5@90", "ABC buy 90: 2 of 1")
	w.does(s, "accepted ABC 1/s#2 5@121")
	w.does(order(2, "b", "B", -1, 90), "accepted ABC 2/b#3 1@90", "traded ABC 1/a#1 4@90: buy 1@90", "traded ABC 2/b#3 0@90: sell 1@90", "ABC buy 90: 1 of 1")
	w.checkGuard("A", 4*90+5*121, 1)
	w.tells(cancel(1, "a"), after(of(api.EvCancelled, 1, a), 1), level(api.Buy, 90, 0, 0))
	w.tells(cancel(1, "s"), of(api.EvCancelled, 2, s))
	w.checkGuard("A", 0, 1)
}

func TestE4ReplaceRefusedByTheFirst(t *testing.T) {
	// Each replacement has the faults of all that stand below it, and no more.
	w := startBoth(t, trading, api.Account{Name: "A", Order: 1000}, api.Account{Name: "B"})
	w.does(order(1, "x", "A", 20, 95-45, symbol("XY")), "refused XY 1/x by 103")
	w.does(order(1, "x", "A", 10, 95, symbol("XY")), "accepted XY 1/x#1 10@95", "XY buy 95: 10 of 1")
	w.does(order(1, "p", "A", 10, 90, life(api.PostOnly)), "accepted ABC 1/p#2 10@90", "ABC buy 90: 10 of 1")
	w.does(order(1, "s", "A", 10, 0, stop(120)), "accepted ABC 1/s#3 10@0")
	w.does(order(2, "o", "B", -5, 95), "accepted ABC 2/o#4 5@95", "ABC sell 95: 5 of 1")
	w.does(order(2, "q", "B", 4, 90), "accepted ABC 2/q#5 4@90", "ABC buy 90: 14 of 2")
	for _, x := range []struct {
		name string
		c    api.Command
		want api.Errno
	}{
		{"no such order", replace(1, "none", "a b", 0, -1), api.ErrNone},
		{"another owner's", replace(2, "x", "a b", 0, -1), api.ErrNone},
		{"no name", replace(1, "x", "a b", 10, 0), api.ErrArg},
		{"an empty name", replace(1, "x", "", 10, 0), api.ErrArg},
		{"a name that is used, and no quantity", replace(1, "x", "p", 0, -1), api.ErrArg},
		{"below 0", replace(1, "x", "n", -1, 0), api.ErrArg},
		{"least", replace(1, "x", "n", math.MinInt64, 0), api.ErrArg},
		{"greatest", replace(1, "x", "n", math.MaxInt64, 0), api.ErrArg},
		{"above MaxQty", replace(1, "x", "n", api.MaxQty+1, 0), api.ErrArg},
		{"its own name", replace(1, "x", "x", 15, 203), api.ErrKnown},
		{"a name that is used", replace(1, "x", "p", 15, 203), api.ErrKnown},
		{"type", replace(1, "x", "n", 15, -1), api.ErrType},
		{"a stop of none", replace(1, "x", "n", 15, 203, func(o *api.Order) { o.Stop = 95 }), api.ErrType},
		{"a price of a stop", replace(1, "s", "n", 5, 100), api.ErrType},
		{"a stop below 0", replace(1, "s", "n", 5, 0, func(o *api.Order) { o.Stop = -1 }), api.ErrType},
		{"lots", replace(1, "x", "n", 15, 203), api.ErrLot},
		{"above Most", replace(1, "x", "n", 510, 203), api.ErrLot},
		{"ticks", replace(1, "x", "n", 20, 203), api.ErrTick},
		{"band", replace(1, "x", "n", 20, 205), api.ErrBand},
		{"above a limit", replace(1, "p", "n", 11, 95), api.ErrLimit},
		{"above a limit, of a stop", replace(1, "s", "n", 11, 0), api.ErrLimit},
		{"it would trade", replace(1, "p", "n", 10, 95), api.ErrCross},
	} {
		w.tells(x.c, refusedBy(x.c, x.c.Name, x.want))
		w.checkOver(1, "n")
	}
	w.does(halt("ABC"), "ABC Halted")
	c := replace(2, "q", "n", 3, -1) // the phase goes ahead of what else a listing tells
	w.tells(c, refusedBy(c, "q", api.ErrPhase))
	c = replace(2, "q", "n", 0, -1)
	w.tells(c, refusedBy(c, "q", api.ErrArg))
	w.does(resume("ABC"), "ABC Opening", "ABC Trading")
	w.does(replace(2, "q", "n", 3, 0), "replaced ABC 2/n#5 3@90", "ABC buy 90: 13 of 2")
}

func TestE4ReplaceOfAStoppedOrHastyAccount(t *testing.T) {
	w := start(t, trading, api.Account{Name: "A", Burst: 2, Per: 1000})
	w.does(order(1, "a", "A", 5, 90), "accepted ABC 1/a#1 5@90", "ABC buy 90: 5 of 1")
	w.does(replace(1, "a", "b", 2000000, 90), "refused  1/a by 1") // what is refused ahead of the guard does not count
	w.does(replace(1, "a", "b", 5, 91), "replaced ABC 1/b#1 5@91", "ABC buy 91: 5 of 1", "ABC buy 90: 0 of 0")
	w.does(replace(1, "b", "c", 5, 92), "refused  1/b by 151")
}

func TestE4ReplaceCountsWhatItReplacesNoMore(t *testing.T) {
	w := start(t, trading, api.Account{Name: "A", Open: 1000, Position: 10}, api.Account{Name: "B"})
	w.does(order(1, "a", "A", 10, 100), "accepted ABC 1/a#1 10@100", "ABC buy 100: 10 of 1")
	w.does(order(1, "x", "A", 1, 1), "refused ABC 1/x by 150")
	w.does(replace(1, "a", "b", 10, 99), "replaced ABC 1/b#1 10@99", "ABC buy 100: 0 of 0", "ABC buy 99: 10 of 1")
	w.does(replace(1, "b", "c", 11, 1), "refused  1/b by 150")
	w.checkGuard("A", 990, 0)
	w.does(order(2, "s", "B", -4, 99), "accepted ABC 2/s#2 4@99", "traded ABC 1/b#1 6@99: buy 4@99", "traded ABC 2/s#2 0@99: sell 4@99", "ABC buy 99: 6 of 1")
	w.checkGuard("A", 594, 4)
	w.checkGuard("B", 0, -4)
	// What is checked is what is left, not what it is in all.
	w.does(replace(1, "b", "c", 10, 160), "replaced ABC 1/c#1 6@160", "ABC buy 160: 6 of 1", "ABC buy 99: 0 of 0")
	w.checkGuard("A", 960, 4)
	w.does(replace(1, "c", "d", 11, 10), "refused  1/c by 150")
	w.does(replace(1, "c", "d", 10, 167), "refused  1/c by 150")
}

func TestE4ReplaceInTrading(t *testing.T) {
	w := start(t, trading)
	a := order(1, "a", "A", 10, 90)
	w.does(a, "accepted ABC 1/a#1 10@90", "ABC buy 90: 10 of 1")
	w.does(order(2, "b", "B", 10, 90), "accepted ABC 2/b#2 10@90", "ABC buy 90: 20 of 2")
	w.does(order(3, "c", "C", -3, 90), "accepted ABC 3/c#3 3@90", "traded ABC 1/a#1 7@90: buy 3@90", "traded ABC 3/c#3 0@90: sell 3@90", "ABC buy 90: 17 of 2")
	// It keeps its place; the quantity is what it is to be in all.
	e := after(of(api.EvReplaced, 1, a), 3)
	e.Name, e.O.Name, e.O.Qty = "a2", "a2", 5
	w.tells(replace(1, "a", "a2", 8, 0), e, level(api.Buy, 90, 15, 2))
	w.checkOrder(1, "a2", e.O)
	w.checkOver(1, "a")
	w.does(order(3, "d", "C", -1, 90), "accepted ABC 3/d#4 1@90", "traded ABC 1/a2#1 4@90: buy 1@90", "traded ABC 3/d#4 0@90: sell 1@90", "ABC buy 90: 14 of 2")
	// It loses its place.
	w.does(replace(1, "a2", "a3", 9, 90), "replaced ABC 1/a3#1 5@90", "ABC buy 90: 15 of 2")
	w.does(order(3, "e", "C", -1, 90), "accepted ABC 3/e#5 1@90", "traded ABC 2/b#2 9@90: buy 1@90", "traded ABC 3/e#5 0@90: sell 1@90", "ABC buy 90: 14 of 2")
	// It trades.
	w.does(order(3, "f", "C", -3, 95), "accepted ABC 3/f#6 3@95", "ABC sell 95: 3 of 1")
	w.does(order(1, "g", "A", -3, 96), "accepted ABC 1/g#7 3@96", "ABC sell 96: 3 of 1")
	w.does(replace(1, "a3", "a4", 9, 96), "replaced ABC 1/a4#1 5@96", "traded ABC 1/a4#1 2@96: buy 3@95", "traded ABC 3/f#6 0@95: sell 3@95", "cancelled ABC 1/g#7 3@96", "ABC buy 96: 2 of 1", "ABC buy 90: 9 of 1", "ABC sell 95: 0 of 0", "ABC sell 96: 0 of 0")
	w.checkGuard("A", 2*96, 7)
	w.checkGuard("C", 0, -8)
	w.does(replace(1, "a4", "a5", 7, 0), "refused  1/a4 by 1") // so many are done
	w.does(order(3, "h", "C", -2, 96), "accepted ABC 3/h#8 2@96", "traded ABC 1/a4#1 0@96: buy 2@96", "traded ABC 3/h#8 0@96: sell 2@96", "ABC buy 96: 0 of 0")
	w.checkOver(1, "a4")
	w.does(replace(1, "a4", "a5", 20, 0), "refused  1/a4 by 121")
}

func TestE4ReplaceKeepsWhatElseAnOrderIs(t *testing.T) {
	w := start(t, trading)
	c := order(1, "a", "A", 100, 90, show(10), until(20240104))
	w.does(c, "accepted ABC 1/a#1 100@90", "ABC buy 90: 10 of 1")
	to := replace(1, "a", "b", 50, 91, func(o *api.Order) {
		o.ID, o.Account, o.Symbol, o.Side, o.Type, o.Life, o.Show, o.Done, o.Least, o.Until, o.Owner = 9, "B", "NO", 2, 2, 2, 3, 4, 5, 6, 7
	})
	e := of(api.EvReplaced, 1, c)
	e.Name, e.O.Name, e.O.Qty, e.O.Price = "b", "b", 50, 91
	w.tells(to, e, level(api.Buy, 91, 10, 1), level(api.Buy, 90, 0, 0))
	w.checkOrder(1, "b", e.O)
	// What is shown is at most all.
	w.does(replace(1, "b", "c", 5, 0), "replaced ABC 1/c#1 5@91", "ABC buy 91: 5 of 1")
	// Of an order that shows a part, that part must be a hundredth.
	w.does(replace(1, "c", "d", 501, 0), "refused  1/c by 102")
	w.does(replace(1, "c", "d", 500, 0), "replaced ABC 1/d#1 500@91")
}

func TestE4ReplaceByTheGreatestQuantity(t *testing.T) {
	w := start(t, trading)
	w.does(order(1, "a", "A", 10, 90), "accepted ABC 1/a#1 10@90", "ABC buy 90: 10 of 1")
	w.does(replace(1, "a", "b", 1000001, 0), "refused  1/a by 1")
	w.does(replace(1, "a", "b", 1000000, 0), "replaced ABC 1/b#1 1000000@90", "ABC buy 90: 1000000 of 1")
	w.does(order(2, "c", "B", -1, 90), "accepted ABC 2/c#2 1@90", "traded ABC 1/b#1 999999@90: buy 1@90", "traded ABC 2/c#2 0@90: sell 1@90", "ABC buy 90: 999999 of 1")
	w.does(replace(1, "b", "d", 1000001, 0), "refused  1/b by 102") // 1000000 are left of it then, but it is more in all
	w.does(replace(1, "b", "d", 1, 0), "refused  1/b by 1")
	w.does(replace(1, "b", "d", 2, 0), "replaced ABC 1/d#1 1@90", "ABC buy 90: 1 of 1")
	w.does(replace(1, "d", "e", 1000000, 0), "replaced ABC 1/e#1 999999@90", "ABC buy 90: 999999 of 1")
}

func TestE4LeastCountsInTradingAlone(t *testing.T) {
	w := start(t, trading)
	w.does(order(2, "s", "B", -2, 95), "accepted ABC 2/s#1 2@95", "ABC sell 95: 2 of 1")
	c := order(1, "a", "A", 5, 95, least(2), life(api.GTC))
	w.does(c, "accepted ABC 1/a#2 5@95", "traded ABC 1/a#2 3@95: buy 2@95", "traded ABC 2/s#1 0@95: sell 2@95", "ABC buy 95: 3 of 1", "ABC sell 95: 0 of 0")
	w.does(replace(1, "a", "b", 4, 0), "replaced ABC 1/b#2 2@95", "ABC buy 95: 2 of 1")
	w.goes(closing, "ABC Closing")
	e := after(of(api.EvReplaced, 2, c), 2)
	e.Name, e.O.Name, e.O.Qty, e.O.Price = "c", "c", 1, 94
	e.O.Least = 1 // at most what is left
	w.tells(replace(1, "b", "c", 3, 94), e, level(api.Buy, 95, 0, 0), level(api.Buy, 94, 1, 1))
	w.goes(preOpen+day, "ABC Closed", "ABC PreOpen")
	w.checkOrder(1, "c", e.O)
	w.does(replace(1, "c", "d", 4, 0), "replaced ABC 1/d#2 2@94", "ABC buy 94: 2 of 1")
	w.goes(trading+day, "ABC Opening", "ABC Trading")
	w.does(replace(1, "d", "e", 9, 93), "replaced ABC 1/e#2 7@93", "ABC buy 94: 0 of 0", "ABC buy 93: 7 of 1")
}

func TestE4TheListingIsAskedOfAllThatItIsToBe(t *testing.T) {
	// In all 30 are whole lots, 20 of which are done; Show and Least are cut to what it is to be, ahead of that question.
	w := startBoth(t, trading)
	xy := symbol("XY")
	w.does(order(2, "s", "B", -20, 95, xy), "accepted XY 2/s#1 20@95", "XY sell 95: 20 of 1")
	w.does(order(1, "a", "A", 50, 95, xy, least(20)), "accepted XY 1/a#2 50@95", "traded XY 1/a#2 30@95: buy 20@95", "traded XY 2/s#1 0@95: sell 20@95", "XY buy 95: 30 of 1", "XY sell 95: 0 of 0")
	w.does(replace(1, "a", "b", 35, 0), "refused  1/a by 102")
	w.does(replace(1, "a", "b", 30, 0), "replaced XY 1/b#2 10@95", "XY buy 95: 10 of 1")
	w.does(order(1, "c", "A", 50, 95, xy, show(30)), "accepted XY 1/c#3 50@95", "XY buy 95: 40 of 2")
	w.does(replace(1, "c", "d", 20, 0), "replaced XY 1/d#3 20@95", "XY buy 95: 30 of 2")
}

func TestE4ReplaceInPreOpenAndClosing(t *testing.T) {
	for _, at := range []int64{preOpen, closing} {
		w := start(t, at)
		a := order(1, "a", "A", 10, 90, show(4))
		w.does(a, "accepted ABC 1/a#1 10@90", "ABC buy 90: 4 of 1")
		w.does(order(2, "b", "B", 10, 90), "accepted ABC 2/b#2 10@90", "ABC buy 90: 14 of 2")
		w.does(order(3, "c", "C", -5, 95), "accepted ABC 3/c#3 5@95", "ABC sell 95: 5 of 1")
		w.does(replace(1, "a", "a2", 9, 0), "replaced ABC 1/a2#1 9@90")
		checkOrders(t, w, api.Buy, 1, 2)
		w.does(replace(1, "a2", "a3", 9, 90), "replaced ABC 1/a3#1 9@90")
		checkOrders(t, w, api.Buy, 1, 2)
		w.does(replace(1, "a3", "a4", 10, 90), "replaced ABC 1/a4#1 10@90")
		checkOrders(t, w, api.Buy, 2, 1)
		// It crosses, and waits all the same.
		e := of(api.EvReplaced, 1, a)
		e.Name, e.O.Name, e.O.Qty, e.O.Price, e.O.Show = "a5", "a5", 3, 97, 3
		w.tells(replace(1, "a4", "a5", 3, 97), e, level(api.Buy, 97, 3, 1), level(api.Buy, 90, 10, 1))
		w.checkOrder(1, "a5", e.O)
		checkOrders(t, w, api.Buy, 1, 2)
		w.checkGuard("A", 3*97, 0)
		w.does(replace(2, "b", "b2", 5, 97), "replaced ABC 2/b2#2 5@97", "ABC buy 97: 8 of 2", "ABC buy 90: 0 of 0")
		checkOrders(t, w, api.Buy, 1, 2)
		w.does(replace(1, "a5", "a6", 301, 98), "refused  1/a5 by 102")
	}
}

// checkOrders holds who waits on a side, by numbers, the one that is ahead first.
func checkOrders(t *testing.T, w *world, side int, want ...int) {
	t.Helper()
	l := w.e.instruments[0].book.Orders(side)
	if len(l) != len(want) {
		t.Errorf("%+v, want %v", l, want)
		return
	}
	for n, o := range l {
		if o.ID != want[n] {
			t.Errorf("at %d: %d, want %d", n, o.ID, want[n])
		}
	}
}

func TestE4ReplaceInAFullBook(t *testing.T) {
	w := start(t, preOpen)
	w.filled(499)
	w.does(order(1, "a", "A", 2, 49), "accepted ABC 1/a#500 2@49", "ABC buy 49: 2 of 1")
	w.does(replace(1, "a", "b", 3, 48), "replaced ABC 1/b#500 3@48", "ABC buy 49: 0 of 0", "ABC buy 48: 3 of 1")
}

func TestE4ReplaceOfOrdersForTheOpening(t *testing.T) {
	w := start(t, preOpen)
	w.does(order(1, "m", "A", 5, 0, market(api.AtOpen)), "accepted ABC 1/m#1 5@0")
	w.does(order(1, "o", "A", 5, 99, life(api.AtOpen)), "accepted ABC 1/o#2 5@99", "ABC buy 99: 5 of 1")
	w.does(replace(1, "m", "m2", 4, 0), "replaced ABC 1/m2#1 4@0")
	w.does(replace(1, "m2", "m3", 6, 0), "replaced ABC 1/m3#1 6@0")
	w.does(replace(1, "m3", "m4", 6, 100), "refused  1/m3 by 105")
	w.does(replace(1, "o", "o2", 6, 98), "replaced ABC 1/o2#2 6@98", "ABC buy 99: 0 of 0", "ABC buy 98: 6 of 1")
	w.checkGuard("A", 600+6*98, 0)
	// Behind a halt they live in Closing.
	w.does(halt("ABC"), "ABC Halted")
	w.goes(closing)
	w.does(resume("ABC"), "ABC Closing")
	w.does(replace(1, "m3", "m4", 5, 0), "refused  1/m3 by 104")
	w.does(replace(1, "o2", "o3", 6, 97), "refused  1/o2 by 104")
	w.does(order(2, "p", "B", 1, 97, life(api.AtOpen)), "refused ABC 2/p by 104")
	w.goes(closed, "ABC Closed", "expired ABC 1/m3#1 6@0", "expired ABC 1/o2#2 6@98", "ABC buy 98: 0 of 0")
}

func TestE4ReplaceOfPostOnlyBeyondTrading(t *testing.T) {
	w := start(t, trading)
	w.does(order(1, "p", "A", 5, 90, life(api.PostOnly)), "accepted ABC 1/p#1 5@90", "ABC buy 90: 5 of 1")
	w.does(replace(1, "p", "q", 5, 91), "replaced ABC 1/q#1 5@91", "ABC buy 91: 5 of 1", "ABC buy 90: 0 of 0")
	w.goes(closing, "ABC Closing")
	w.does(replace(1, "q", "r", 4, 0), "refused  1/q by 104")
	w.goes(closed, "ABC Closed", "expired ABC 1/q#1 5@91", "ABC buy 91: 0 of 0")
	w.does(replace(1, "q", "r", 4, 0), "refused  1/q by 121")
}

func TestE4ReplaceBehindTheLastDay(t *testing.T) {
	i := abc()
	i.Turns = turns(0, api.Trading) // it does not close from one day of trade to the next
	w := listedWorld(t, trading, []api.Instrument{i})
	w.does(order(1, "a", "A", 5, 90, until(20240103)), "accepted ABC 1/a#1 5@90", "ABC buy 90: 5 of 1")
	w.does(replace(1, "a", "b", 4, 0), "replaced ABC 1/b#1 4@90", "ABC buy 90: 4 of 1")
	w.goes(trading + day)
	w.does(replace(1, "b", "c", 4, 0), "refused  1/b by 105")
	w.goes(trading+3*day, "ABC Closed", "expired ABC 1/b#1 4@90", "ABC buy 90: 0 of 0")
}

func TestE4ReplaceOfStops(t *testing.T) {
	w := start(t, trading)
	a, b := order(1, "a", "A", 5, 0, stop(105)), order(1, "b", "A", -5, 94, stop(95))
	w.does(a, "accepted ABC 1/a#1 5@0")
	w.does(b, "accepted ABC 1/b#2 5@94")
	w.checkGuard("A", 500+5*94, 0)
	// What is not named stays as it is.
	e := of(api.EvReplaced, 1, a)
	e.Name, e.O.Name, e.O.Qty = "a2", "a2", 7
	w.tells(replace(1, "a", "a2", 7, 0), e)
	w.checkOrder(1, "a2", e.O)
	w.checkOver(1, "a")
	e.Name, e.O.Name, e.O.Stop = "a3", "a3", 104
	at := func(price int64) func(o *api.Order) { return func(o *api.Order) { o.Stop = price } }
	w.tells(replace(1, "a2", "a3", 7, 0, at(104)), e)
	e = of(api.EvReplaced, 2, b)
	e.Name, e.O.Name, e.O.Stop, e.O.Price, e.O.Qty = "b2", "b2", 96, 93, 4
	w.tells(replace(1, "b", "b2", 4, 93, at(96)), e)
	w.checkGuard("A", 700+4*93, 0)
	// There is no last price yet: the reference wakes nothing.
	w.does(replace(1, "a3", "a4", 7, 0, at(100)), "replaced ABC 1/a4#1 7@0")
	w.does(order(2, "s", "B", -1, 99), "accepted ABC 2/s#3 1@99", "ABC sell 99: 1 of 1")
	w.does(order(3, "t", "C", 1, 99), "accepted ABC 3/t#4 1@99", "traded ABC 3/t#4 0@99: buy 1@99", "traded ABC 2/s#3 0@99: sell 1@99", "ABC sell 99: 0 of 0")
	// Now the last price wakes what is replaced beyond it.
	w.does(replace(1, "a4", "a5", 7, 0, at(99)), "replaced ABC 1/a5#1 7@0", "triggered ABC 1/a5#1 7@0", "cancelled ABC 1/a5#1 7@0")
	w.does(replace(1, "b2", "b3", 4, 0, at(98)), "replaced ABC 1/b3#2 4@93")
	w.does(replace(1, "b3", "b4", 4, 0, at(99)), "replaced ABC 1/b4#2 4@93", "triggered ABC 1/b4#2 4@93", "ABC sell 93: 4 of 1")
	w.checkGuard("A", 4*93, 0)
	w.does(order(1, "c", "A", 5, 0, stop(120)), "accepted ABC 1/c#5 5@0")
	w.goes(closing, "ABC Closing")
	w.does(replace(1, "c", "d", 5, 0, at(90)), "replaced ABC 1/d#5 5@0") // it is not Trading
	w.does(halt("ABC"), "ABC Halted")
	w.does(replace(1, "d", "e", 5, 0), "refused  1/d by 104")
}

func TestE4ReplaceOfWhatCameAlive(t *testing.T) {
	w := start(t, trading)
	w.does(order(2, "s", "B", -1, 105), "accepted ABC 2/s#1 1@105", "ABC sell 105: 1 of 1")
	c := order(1, "a", "A", 5, 103, stop(105), life(api.GTC))
	w.does(c, "accepted ABC 1/a#2 5@103")
	w.does(order(3, "t", "C", 1, 105), "accepted ABC 3/t#3 1@105", "traded ABC 3/t#3 0@105: buy 1@105", "traded ABC 2/s#1 0@105: sell 1@105", "triggered ABC 1/a#2 5@103", "ABC buy 103: 5 of 1", "ABC sell 105: 0 of 0")
	e := of(api.EvReplaced, 2, c)
	e.Name, e.O.Name, e.O.Type, e.O.Price = "b", "b", api.Limit, 102
	w.tells(replace(1, "a", "b", 5, 102), e, level(api.Buy, 103, 0, 0), level(api.Buy, 102, 5, 1))
	if e.O.Stop != 105 {
		t.Errorf("the book leaves Stop as it is")
	}
	w.does(replace(1, "b", "c", 5, 101, func(o *api.Order) { o.Stop = 105 }), "refused  1/b by 105")
	w.goes(closing, "ABC Closing")
	e.Name, e.O.Name, e.O.Price, e.O.Stop = "d", "d", 101, 0 // it rests anew, with the Stop that was asked
	w.tells(replace(1, "b", "d", 5, 101), e, level(api.Buy, 102, 0, 0), level(api.Buy, 101, 5, 1))
	w.checkOrder(1, "d", e.O)
}

func TestE4NamesFollowTheOrder(t *testing.T) {
	w := start(t, trading)
	w.does(order(1, "a", "A", 10, 90), "accepted ABC 1/a#1 10@90", "ABC buy 90: 10 of 1")
	w.does(replace(1, "a", "b", 9, 0), "replaced ABC 1/b#1 9@90", "ABC buy 90: 9 of 1")
	w.does(replace(1, "a", "c", 8, 0), "refused  1/a by 121")
	w.does(order(1, "s", "A", 10, 91, stop(90)), "accepted ABC 1/s#2 10@91")
	w.does(replace(1, "s", "s2", 9, 0), "replaced ABC 1/s2#2 9@91")
	w.does(order(2, "x", "B", -1, 90), "accepted ABC 2/x#3 1@90", "traded ABC 1/b#1 8@90: buy 1@90", "traded ABC 2/x#3 0@90: sell 1@90", "triggered ABC 1/s2#2 9@91", "ABC buy 91: 9 of 1", "ABC buy 90: 8 of 1")
	w.does(order(2, "y", "B", -1, 91), "accepted ABC 2/y#4 1@91", "traded ABC 1/s2#2 8@91: buy 1@91", "traded ABC 2/y#4 0@91: sell 1@91", "ABC buy 91: 8 of 1")
	w.does(cancel(1, "s"), "refused  1/s by 121")
	w.does(cancel(1, "s2"), "cancelled ABC 1/s2#2 8@91", "ABC buy 91: 0 of 0")
	w.goes(closed, "ABC Closing", "ABC Closed", "expired ABC 1/b#1 8@90", "ABC buy 90: 0 of 0")
	// What a command says of numbers and names is its own: no order's name comes into it.
	w.does(order(1, "g", "A", 10, 90), "refused ABC 1/g by 104")
	w.goes(trading+day, "ABC PreOpen", "ABC Opening", "ABC Trading")
	w.does(order(1, "h", "A", 10, 90), "accepted ABC 1/h#5 10@90", "ABC buy 90: 10 of 1")
	c := api.Command{Kind: api.DoMass, Owner: 2, O: api.Order{ID: 5, Name: "m"}}
	w.tells(c, api.Event{Kind: api.EvMass, Owner: 2, Name: "m", O: c.O})
}

func TestE5Mass(t *testing.T) {
	l := []struct {
		c    api.Command
		told string
	}{
		{order(1, "x", "A", 10, 95, symbol("XY")), "XY 1/x#1 10@95"},
		{order(1, "a", "A", 1, 95), "ABC 1/a#2 1@95"},
		{order(1, "b", "B", -1, 105), "ABC 1/b#3 1@105"},
		{order(2, "a", "A", 1, 95), "ABC 2/a#4 1@95"},
		{order(1, "s", "A", 1, 0, stop(110)), "ABC 1/s#5 1@0"},
		{order(1, "y", "B", -10, 0, stop(90), symbol("XY")), "XY 1/y#6 10@0"},
		{order(1, "c", "B", 1, 96), "ABC 1/c#7 1@96"},
	}
	for _, x := range []struct {
		owner int
		o     api.Order
		want  []int // which of them, in this order
	}{
		{1, api.Order{}, []int{1, 2, 4, 6, 0, 5}},
		{2, api.Order{}, []int{3}},
		{3, api.Order{}, nil},
		{0, api.Order{}, nil},
		{-1, api.Order{}, nil},
		{1, api.Order{Symbol: "ABC"}, []int{1, 2, 4, 6}},
		{1, api.Order{Symbol: "XY"}, []int{0, 5}},
		{1, api.Order{Account: "A"}, []int{1, 4, 0}},
		{1, api.Order{Account: "B"}, []int{2, 6, 5}},
		{1, api.Order{Account: "C"}, nil},
		{1, api.Order{Side: api.Buy}, []int{1, 4, 6, 0}},
		{1, api.Order{Side: api.Sell}, []int{2, 5}},
		{1, api.Order{Side: api.Sell, Symbol: "XY"}, []int{5}},
		{1, api.Order{Side: api.Sell, Symbol: "XY", Account: "A"}, nil},
		{1, api.Order{Side: api.Buy, Symbol: "ABC", Account: "A"}, []int{1, 4}},
	} {
		w := startBoth(t, trading)
		for _, y := range l {
			y.c.Time = trading
			w.e.Do(y.c)
		}
		x.o.Name, x.o.ID, x.o.Qty, x.o.Type, x.o.Owner = "m m", 3, -7, 9, 4 // these do not count, and are told as they are
		c := api.Command{Kind: api.DoMass, Time: trading, Owner: x.owner, O: x.o, Name: "not this"}
		var want, got []string
		for _, n := range x.want {
			want = append(want, "cancelled "+l[n].told)
		}
		for _, y := range w.e.Do(c) {
			checkForm(t, y)
			switch y.Kind {
			case api.EvMass:
				if y != (api.Event{Kind: api.EvMass, Symbol: x.o.Symbol, Owner: x.owner, Name: "m m", O: x.o, Count: len(x.want)}) || len(got) != len(want) {
					t.Errorf("%+v: %+v", c, y)
				}
			case api.EvCancelled:
				got = append(got, words(y))
			case api.EvLevel:
			default:
				t.Errorf("%+v: %+v", c, y)
			}
		}
		if strings.Join(got, "; ") != strings.Join(want, "; ") {
			t.Errorf("%+v:\n got %q\nwant %q", c, got, want)
		}
		for n, y := range l {
			gone := false
			for _, m := range x.want {
				gone = gone || n == m
			}
			if _, err := w.e.Order(y.c.Owner, y.c.O.Name); (err == api.ErrNone) != gone {
				t.Errorf("%+v: %s: %d", c, y.told, err)
			}
		}
	}
}

func TestE5MassIsRefused(t *testing.T) {
	w := startBoth(t, trading)
	w.does(order(1, "a", "A", 1, 95), "accepted ABC 1/a#1 1@95", "ABC buy 95: 1 of 1")
	for _, x := range []struct {
		o    api.Order
		want api.Errno
	}{
		{api.Order{Side: 3, Symbol: "NO", Account: "NO"}, api.ErrArg},
		{api.Order{Side: -1}, api.ErrArg},
		{api.Order{Side: math.MaxInt}, api.ErrArg},
		{api.Order{Symbol: "NO", Account: "NO"}, api.ErrSymbol},
		{api.Order{Symbol: "abc"}, api.ErrSymbol},
		{api.Order{Account: "NO"}, api.ErrAccount},
		{api.Order{Account: "a", Symbol: "XY"}, api.ErrAccount},
	} {
		c := api.Command{Kind: api.DoMass, Owner: 1, O: x.o, Name: "n"}
		w.tells(c, refusedBy(c, "n", x.want))
	}
	w.does(cancel(1, "a"), "cancelled ABC 1/a#1 1@95", "ABC buy 95: 0 of 0")
}

func TestE5MassInEveryPhase(t *testing.T) {
	w := start(t, trading)
	mass := api.Command{Kind: api.DoMass, Owner: 1}
	gtc := life(api.GTC)
	w.does(order(1, "a", "A", 1, 95, gtc), "accepted ABC 1/a#1 1@95", "ABC buy 95: 1 of 1")
	w.does(halt("ABC"), "ABC Halted")
	w.does(mass, "cancelled ABC 1/a#1 1@95", "mass  1/: 1", "ABC buy 95: 0 of 0")
	w.does(resume("ABC"), "ABC Opening", "ABC Trading")
	w.does(order(1, "b", "A", 1, 0, stop(120), gtc), "accepted ABC 1/b#2 1@0")
	w.goes(closed, "ABC Closing", "ABC Closed")
	w.does(mass, "cancelled ABC 1/b#2 1@0", "mass  1/: 1")
	w.checkGuard("A", 0, 0)
}

func TestE6Time(t *testing.T) {
	w := start(t, trading)
	w.does(api.Command{Kind: api.DoTime, Owner: -1, Name: "a b", O: api.Order{Symbol: "NO", Qty: -1}, Account: api.Account{Name: "a"}})
	w.goes(trading + 1)
	if w.e.Now() != trading+1 {
		t.Errorf("now: %d", w.e.Now())
	}
}

func TestE6HaltAndResume(t *testing.T) {
	w := startBoth(t, wednesday)
	for _, c := range []api.Command{halt("NO"), halt(""), resume("NO"), resume("abc")} {
		c.Owner, c.Name = 3, "n"
		w.tells(c, refusedBy(c, "n", api.ErrSymbol))
	}
	w.does(halt("ABC"), "refused ABC 0/ by 104") // it is Closed
	w.does(resume("ABC"), "refused ABC 0/ by 2")
	w.goes(preOpen, "ABC PreOpen", "XY PreOpen")
	w.does(halt("ABC"), "ABC Halted")
	w.checkPhase("ABC", api.Halted, 100)
	w.checkPhase("XY", api.PreOpen, 100)
	w.does(halt("ABC"), "refused ABC 0/ by 2")
	w.does(resume("XY"), "refused XY 0/ by 2")
	w.does(resume("ABC"), "ABC PreOpen")
	w.does(resume("ABC"), "refused ABC 0/ by 2")
	w.does(halt("ABC"), "ABC Halted")
	w.goes(trading, "XY Opening", "XY Trading") // what is held stays so
	w.checkPhase("ABC", api.Halted, 100)
	w.does(resume("ABC"), "ABC Opening", "ABC Trading")
	w.does(halt("XY"), "XY Halted")
	w.does(halt("ABC"), "ABC Halted")
	w.goes(closing, "XY Closed") // but not beyond its close
	w.does(resume("XY"), "refused XY 0/ by 2")
	w.does(halt("XY"), "refused XY 0/ by 104")
	w.does(resume("ABC"), "ABC Closing")
	w.does(halt("ABC"), "ABC Halted")
	w.goes(closed, "ABC Closed")
	w.does(resume("ABC"), "refused ABC 0/ by 2")
	w.goes(preOpen+day, "ABC PreOpen", "XY PreOpen")
	w.checkPhase("ABC", api.PreOpen, 100)
}

func TestE6TheTurnOfAHeldInstrumentCountsAtItsTime(t *testing.T) {
	w := start(t, trading)
	w.does(halt("ABC"), "ABC Halted")
	w.at = closing
	w.does(resume("ABC"), "ABC Closing") // time passes first
	w.does(halt("ABC"), "ABC Halted")
	w.at = closed
	w.does(resume("ABC"), "ABC Closed", "refused ABC 0/ by 2")
}

func TestE6ResumeOpensAnew(t *testing.T) {
	w := start(t, preOpen)
	w.does(order(1, "b", "A", 5, 103), "accepted ABC 1/b#1 5@103", "ABC buy 103: 5 of 1")
	w.does(order(2, "s", "B", -3, 101), "accepted ABC 2/s#2 3@101", "ABC sell 101: 3 of 1")
	w.does(order(2, "o", "B", -1, 0, market(api.AtOpen)), "accepted ABC 2/o#3 1@0")
	w.does(order(3, "w", "C", 1, 0, stop(103)), "accepted ABC 3/w#4 1@0")
	w.does(halt("ABC"), "ABC Halted")
	w.goes(trading)
	w.does(resume("ABC"), "ABC Opening", "ABC auction 4@103, over 1 buy",
		"traded ABC 1/b#1 4@103: buy 1@103", "traded ABC 2/o#3 0@0: sell 1@103",
		"traded ABC 1/b#1 1@103: buy 3@103", "traded ABC 2/s#2 0@101: sell 3@103",
		"ABC Trading", "triggered ABC 3/w#4 1@0", "cancelled ABC 3/w#4 1@0",
		"ABC buy 103: 1 of 1", "ABC sell 101: 0 of 0")
	w.checkPhase("ABC", api.Trading, 103)
}

func TestE6Kill(t *testing.T) {
	w := startBoth(t, trading)
	kill := func(name string, side int) api.Command {
		return api.Command{Kind: api.DoKill, Owner: 5, Name: "k", O: api.Order{Name: "o", Symbol: "NO", Account: "NO", Side: side}, Account: api.Account{Name: name, Order: -1}}
	}
	w.does(order(1, "x", "A", 10, 95, symbol("XY")), "accepted XY 1/x#1 10@95", "XY buy 95: 10 of 1")
	w.does(order(1, "a", "A", 1, 95), "accepted ABC 1/a#2 1@95", "ABC buy 95: 1 of 1")
	w.does(order(2, "a", "A", -1, 0, stop(90)), "accepted ABC 2/a#3 1@0")
	w.does(order(1, "b", "B", 1, 95), "accepted ABC 1/b#4 1@95", "ABC buy 95: 2 of 2")
	for _, side := range []int{0, 1} {
		for _, name := range []string{"", "a", "NO"} {
			c := kill(name, side)
			w.tells(c, refusedBy(c, "k", api.ErrAccount))
		}
	}
	w.does(kill("A", 1)) // it was not stopped
	w.does(kill("A", 0), "cancelled ABC 1/a#2 1@95", "cancelled ABC 2/a#3 1@0", "cancelled XY 1/x#1 10@95", "mass  0/: 3", "ABC buy 95: 1 of 1", "XY buy 95: 0 of 0")
	w.checkGuard("A", 0, 0)
	w.tells(kill("A", 0), api.Event{Kind: api.EvMass, O: api.Order{Account: "A"}})
	w.does(order(1, "c", "A", 1, 95), "refused ABC 1/c by 152")
	w.does(order(1, "d", "B", 1, 95), "accepted ABC 1/d#5 1@95", "ABC buy 95: 2 of 2")
	for _, side := range []int{1, 2, 3, -1, math.MinInt} {
		w.does(kill("A", side))
		w.does(order(1, "c"+string(rune('a'+side&7)), "A", 1, 85, life(api.FOK)), "refused ABC 1/c"+string(rune('a'+side&7))+" by 124") // it comes to the book again
		w.does(kill("A", 0), "mass  0/: 0")
	}
}

func TestE6Limits(t *testing.T) {
	w := start(t, trading, api.Account{Name: "A"})
	limits := func(a api.Account) api.Command {
		return api.Command{Kind: api.DoLimits, Owner: 5, Name: "l", O: api.Order{Name: "o"}, Account: a}
	}
	w.does(order(1, "a", "A", 10, 95), "accepted ABC 1/a#1 10@95", "ABC buy 95: 10 of 1")
	w.does(limits(api.Account{Name: "A", Order: 100}))
	w.does(order(1, "b", "A", 10, 95), "refused ABC 1/b by 150")
	w.does(replace(1, "a", "b", 9, 0), "refused  1/a by 150")
	w.does(limits(api.Account{Name: "A"}))
	w.does(order(1, "b", "A", 10, 95), "accepted ABC 1/b#2 10@95", "ABC buy 95: 20 of 2")
	for _, a := range []api.Account{{}, {Name: "a"}, {Name: "A", Order: -1}, {Name: "A", Burst: 1001}} {
		c := limits(a)
		w.tells(c, refusedBy(c, "l", api.ErrArg))
	}
	// One more account, up to as many as may be.
	w.does(order(1, "c", "B", 10, 95), "refused ABC 1/c by 161")
	for n := range 15 {
		w.does(limits(api.Account{Name: string(rune('B' + n))}))
	}
	w.does(order(1, "c", "B", 10, 95), "accepted ABC 1/c#3 10@95", "ABC buy 95: 30 of 3")
	c := limits(api.Account{Name: "Z"})
	w.tells(c, refusedBy(c, "l", api.ErrMany))
	w.does(limits(api.Account{Name: "P", Open: 5}))
}
