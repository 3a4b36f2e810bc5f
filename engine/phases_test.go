package engine

import (
	"testing"

	"outcry/api"
)

func TestE7TheRowOfStops(t *testing.T) {
	w := start(t, trading)
	w.does(order(1, "s1", "A", 2, 0, stop(105)), "accepted ABC 1/s1#1 2@0")
	w.does(order(1, "s3", "A", 1, 0, stop(107)), "accepted ABC 1/s3#2 1@0")
	w.does(order(1, "s2", "A", 1, 104, stop(105)), "accepted ABC 1/s2#3 1@104")
	w.does(order(1, "s4", "A", 1, 0, stop(106)), "accepted ABC 1/s4#4 1@0")
	w.does(order(2, "a", "B", -1, 105), "accepted ABC 2/a#5 1@105", "ABC sell 105: 1 of 1")
	w.does(order(2, "b", "B", -1, 106), "accepted ABC 2/b#6 1@106", "ABC sell 106: 1 of 1")
	w.does(order(2, "c", "B", -2, 107), "accepted ABC 2/c#7 2@107", "ABC sell 107: 2 of 1")
	// s1 and s2 come alive by the trade; s4 and s3 by those of s1, in the order of its prices, and stand behind s2.
	w.does(order(3, "x", "C", 1, 105),
		"accepted ABC 3/x#8 1@105", "traded ABC 3/x#8 0@105: buy 1@105", "traded ABC 2/a#5 0@105: sell 1@105",
		"triggered ABC 1/s1#1 2@0", "traded ABC 1/s1#1 1@0: buy 1@106", "traded ABC 2/b#6 0@106: sell 1@106", "traded ABC 1/s1#1 0@0: buy 1@107", "traded ABC 2/c#7 1@107: sell 1@107",
		"triggered ABC 1/s2#3 1@104",
		"triggered ABC 1/s4#4 1@0", "traded ABC 1/s4#4 0@0: buy 1@107", "traded ABC 2/c#7 0@107: sell 1@107",
		"triggered ABC 1/s3#2 1@0", "cancelled ABC 1/s3#2 1@0",
		"ABC buy 104: 1 of 1", "ABC sell 105: 0 of 0", "ABC sell 106: 0 of 0", "ABC sell 107: 0 of 0")
	w.checkGuard("A", 104, 3)
	w.checkGuard("B", 0, -4)
	w.checkGuard("C", 0, 1)
	for _, name := range []string{"s1", "s3", "s4"} {
		w.checkOver(1, name)
	}
}

func TestE7StopsComeByThePricesOneBehindTheOther(t *testing.T) {
	w := start(t, trading)
	w.does(order(1, "far", "A", 1, 50, stop(102)), "accepted ABC 1/far#1 1@50")
	w.does(order(1, "near", "A", 1, 50, stop(101)), "accepted ABC 1/near#2 1@50")
	w.does(order(1, "down", "A", -1, 150, stop(101)), "accepted ABC 1/down#3 1@150")
	w.does(order(2, "a", "B", -1, 101), "accepted ABC 2/a#4 1@101", "ABC sell 101: 1 of 1")
	w.does(order(2, "b", "B", -1, 102), "accepted ABC 2/b#5 1@102", "ABC sell 102: 1 of 1")
	w.does(order(3, "x", "C", 2, 102),
		"accepted ABC 3/x#6 2@102", "traded ABC 3/x#6 1@102: buy 1@101", "traded ABC 2/a#4 0@101: sell 1@101", "traded ABC 3/x#6 0@102: buy 1@102", "traded ABC 2/b#5 0@102: sell 1@102",
		"triggered ABC 1/near#2 1@50", "triggered ABC 1/down#3 1@150", "triggered ABC 1/far#1 1@50",
		"ABC buy 50: 2 of 2", "ABC sell 101: 0 of 0", "ABC sell 102: 0 of 0", "ABC sell 150: 1 of 1")
	// Ahead of each other by when they came alive, not by when they were accepted.
	checkOrders(t, w, api.Buy, 2, 1)
	w.checkGuard("A", 250, 0)
}

func TestE7StopsOfOneInstrumentAlone(t *testing.T) {
	w := startBoth(t, trading)
	w.does(order(1, "s", "A", 10, 0, stop(100), symbol("XY")), "accepted XY 1/s#1 10@0")
	w.does(order(2, "a", "B", -1, 105), "accepted ABC 2/a#2 1@105", "ABC sell 105: 1 of 1")
	w.does(order(3, "b", "C", 1, 105), "accepted ABC 3/b#3 1@105", "traded ABC 3/b#3 0@105: buy 1@105", "traded ABC 2/a#2 0@105: sell 1@105", "ABC sell 105: 0 of 0")
	w.does(cancel(1, "s"), "cancelled XY 1/s#1 10@0")
}

func TestE7WhatComesAliveMeetsItsOwn(t *testing.T) {
	w := start(t, trading)
	s := order(1, "s", "A", 5, 110, stop(105))
	w.does(s, "accepted ABC 1/s#1 5@110")
	w.does(order(1, "own", "A", -5, 106), "accepted ABC 1/own#2 5@106", "ABC sell 106: 5 of 1")
	w.does(order(2, "a", "B", -1, 105), "accepted ABC 2/a#3 1@105", "ABC sell 105: 1 of 1")
	w.checkGuard("A", 5*110+5*106, 0)
	w.does(order(3, "x", "C", 1, 105), "accepted ABC 3/x#4 1@105", "traded ABC 3/x#4 0@105: buy 1@105", "traded ABC 2/a#3 0@105: sell 1@105", "triggered ABC 1/s#1 5@110", "cancelled ABC 1/own#2 5@106", "ABC buy 110: 5 of 1", "ABC sell 105: 0 of 0", "ABC sell 106: 0 of 0")
	w.checkGuard("A", 5*110, 0)
	w.checkOver(1, "own")
	o := of(0, 1, s).O
	o.Type = api.Limit
	w.checkOrder(1, "s", o)
}

func TestE7WhatComesAliveFindsAFullBook(t *testing.T) {
	w := start(t, trading)
	w.filled(499)
	w.does(order(2, "a", "B", -2, 105), "accepted ABC 2/a#500 2@105", "ABC sell 105: 2 of 1")
	limit, all := order(1, "l", "A", 3, 104, stop(105)), order(1, "m", "A", 1, 0, stop(105))
	w.does(limit, "accepted ABC 1/l#501 3@104")
	w.does(all, "accepted ABC 1/m#502 1@0")
	w.checkGuard("A", 3*104+100, 0)
	x := order(3, "x", "C", 1, 105, life(api.IOC))
	a := of(0, 500, order(2, "a", "B", -2, 105))
	alive := of(api.EvTriggered, 501, limit)
	alive.O.Type = api.Limit
	refused := alive
	refused.Kind, refused.Err = api.EvCancelled, api.ErrMany
	second := of(api.EvTriggered, 502, all)
	second.O.Type = api.Market
	want := []api.Event{of(api.EvAccepted, 503, x)}
	want = append(want, traded(after(of(0, 503, x), 1), after(a, 1), api.Buy, 105, 1)...)
	want = append(want, alive, refused, second)
	want = append(want, traded(after(second, 1), after(a, 2), api.Buy, 105, 1)...)
	w.tells(x, append(want, level(api.Sell, 105, 0, 0))...)
	w.checkGuard("A", 0, 1)
	w.checkOver(1, "l")
	w.does(order(1, "l", "A", 3, 104), "refused ABC 1/l by 120")
}

func TestE7SettledOpensAndPositions(t *testing.T) {
	w := start(t, trading)
	w.does(order(1, "a", "A", -10, 100), "accepted ABC 1/a#1 10@100", "ABC sell 100: 10 of 1")
	w.does(order(2, "b", "B", -10, 101), "accepted ABC 2/b#2 10@101", "ABC sell 101: 10 of 1")
	w.checkGuard("A", 1000, 0)
	w.does(order(3, "c", "C", 14, 101), "accepted ABC 3/c#3 14@101", "traded ABC 3/c#3 4@101: buy 10@100", "traded ABC 1/a#1 0@100: sell 10@100", "traded ABC 3/c#3 0@101: buy 4@101", "traded ABC 2/b#2 6@101: sell 4@101", "ABC sell 100: 0 of 0", "ABC sell 101: 6 of 1")
	w.checkGuard("A", 0, -10)
	w.checkGuard("B", 606, -4)
	w.checkGuard("C", 0, 14)
	w.does(order(3, "d", "C", 8, 101), "accepted ABC 3/d#4 8@101", "traded ABC 3/d#4 2@101: buy 6@101", "traded ABC 2/b#2 0@101: sell 6@101", "ABC buy 101: 2 of 1", "ABC sell 101: 0 of 0")
	w.checkGuard("B", 0, -10)
	w.checkGuard("C", 202, 20)
	w.does(order(1, "e", "A", -1, 101, life(api.IOC)), "accepted ABC 1/e#5 1@101", "traded ABC 3/d#4 1@101: buy 1@101", "traded ABC 1/e#5 0@101: sell 1@101", "ABC buy 101: 1 of 1")
	w.checkGuard("A", 0, -11)
	w.checkGuard("C", 101, 21)
	w.does(order(3, "f", "C", -1, 101), "accepted ABC 3/f#6 1@101", "cancelled ABC 3/d#4 1@101", "ABC buy 101: 0 of 0", "ABC sell 101: 1 of 1")
	w.checkGuard("C", 101, 21)
}

func TestE7AReplacementWakesStops(t *testing.T) {
	w := start(t, trading)
	w.does(order(1, "s", "A", -5, 0, stop(95)), "accepted ABC 1/s#1 5@0")
	w.does(order(2, "a", "B", 1, 95), "accepted ABC 2/a#2 1@95", "ABC buy 95: 1 of 1")
	w.does(order(3, "b", "C", -1, 99), "accepted ABC 3/b#3 1@99", "ABC sell 99: 1 of 1")
	w.does(replace(3, "b", "c", 1, 90), "replaced ABC 3/c#3 1@90", "traded ABC 2/a#2 0@95: buy 1@95", "traded ABC 3/c#3 0@90: sell 1@95", "triggered ABC 1/s#1 5@0", "cancelled ABC 1/s#1 5@0", "ABC buy 95: 0 of 0", "ABC sell 99: 0 of 0")
}

func TestE8NothingTrades(t *testing.T) {
	w := start(t, preOpen)
	w.does(order(1, "b", "A", 5, 99), "accepted ABC 1/b#1 5@99", "ABC buy 99: 5 of 1")
	w.does(order(2, "s", "B", -5, 101), "accepted ABC 2/s#2 5@101", "ABC sell 101: 5 of 1")
	w.goes(trading, "ABC Opening", "ABC Trading")
	w.checkPhase("ABC", api.Trading, 100)
	w = start(t, preOpen)
	w.goes(trading, "ABC Opening", "ABC Trading")
	w.does(order(1, "m", "A", 5, 0, market(api.IOC)), "accepted ABC 1/m#1 5@0", "cancelled ABC 1/m#1 5@0")
}

func TestE8TheReferenceIsThePriceOfTheAuction(t *testing.T) {
	w := start(t, preOpen)
	gtc := life(api.GTC)
	w.does(order(1, "b", "A", 10, 110, gtc), "accepted ABC 1/b#1 10@110", "ABC buy 110: 10 of 1")
	w.does(order(2, "s", "B", -15, 90, gtc), "accepted ABC 2/s#2 15@90", "ABC sell 90: 15 of 1")
	w.at = trading
	w.tells(api.Command{Kind: api.DoTime}, append(append([]api.Event{
		phase(api.Opening),
		{Kind: api.EvAuction, Symbol: "ABC", Level: api.Level{Price: 90, Qty: 10}, F: api.Fill{Qty: 5}, Side: api.Sell}},
		traded(after(of(0, 1, order(1, "b", "A", 10, 110, gtc)), 10), after(of(0, 2, order(2, "s", "B", -15, 90, gtc)), 10), 0, 90, 10)...),
		phase(api.Trading), level(api.Buy, 110, 0, 0), level(api.Sell, 90, 5, 1))...)
	w.checkPhase("ABC", api.Trading, 90)
	w.checkGuard("A", 0, 10)
	w.checkGuard("B", 450, -10)
	// Its trades change no reference; the next auction finds the one nearest to 90.
	w.does(order(1, "c", "A", 5, 94), "accepted ABC 1/c#3 5@94", "traded ABC 1/c#3 0@94: buy 5@90", "traded ABC 2/s#2 0@90: sell 5@90", "ABC sell 90: 0 of 0")
	w.does(order(1, "d", "A", 1, 97), "accepted ABC 1/d#4 1@97", "ABC buy 97: 1 of 1")
	w.does(order(2, "e", "B", -1, 97), "accepted ABC 2/e#5 1@97", "traded ABC 1/d#4 0@97: buy 1@97", "traded ABC 2/e#5 0@97: sell 1@97", "ABC buy 97: 0 of 0")
	w.checkPhase("ABC", api.Trading, 90)
	w.goes(closing, "ABC Closing")
	w.does(order(1, "f", "A", 1, 120), "accepted ABC 1/f#6 1@120", "ABC buy 120: 1 of 1")
	w.does(order(2, "g", "B", -1, 80), "accepted ABC 2/g#7 1@80", "ABC sell 80: 1 of 1")
	w.goes(closed, "ABC auction 1@90, over 0 nothing", "traded ABC 1/f#6 0@120: buy 1@90", "traded ABC 2/g#7 0@80: sell 1@90", "ABC Closed", "ABC buy 120: 0 of 0", "ABC sell 80: 0 of 0")
	w.checkPhase("ABC", api.Closed, 90)
}

func TestE8ByMarketOrdersAlone(t *testing.T) {
	w := start(t, preOpen)
	w.does(order(1, "b", "A", 10, 0, market(api.AtOpen)), "accepted ABC 1/b#1 10@0")
	w.does(order(2, "s", "B", -7, 0, market(api.AtOpen)), "accepted ABC 2/s#2 7@0")
	w.goes(trading, "ABC Opening", "ABC auction 7@100, over 3 buy", "traded ABC 1/b#1 3@0: buy 7@100", "traded ABC 2/s#2 0@0: sell 7@100", "expired ABC 1/b#1 3@0", "ABC Trading")
	w.checkGuard("A", 0, 7)
	w.checkGuard("B", 0, -7)
}

func TestE8AllOfAnOrderIsThereAndNumbersDecide(t *testing.T) {
	w := start(t, preOpen)
	w.does(order(1, "a", "A", 10, 100, show(2)), "accepted ABC 1/a#1 10@100", "ABC buy 100: 2 of 1")
	w.does(order(2, "b", "B", 10, 100), "accepted ABC 2/b#2 10@100", "ABC buy 100: 12 of 2")
	w.does(replace(1, "a", "a2", 11, 0), "replaced ABC 1/a2#1 11@100")
	checkOrders(t, w, api.Buy, 2, 1) // it lost its place in the book, not its number
	w.does(order(3, "s", "C", -12, 100), "accepted ABC 3/s#3 12@100", "ABC sell 100: 12 of 1")
	w.goes(trading, "ABC Opening", "ABC auction 12@100, over 9 buy",
		"traded ABC 1/a2#1 0@100: buy 11@100", "traded ABC 3/s#3 1@100: sell 11@100",
		"traded ABC 2/b#2 9@100: buy 1@100", "traded ABC 3/s#3 0@100: sell 1@100",
		"ABC Trading", "ABC buy 100: 9 of 1", "ABC sell 100: 0 of 0")
}

func TestE8OneAccountOnBothSides(t *testing.T) {
	w := start(t, preOpen)
	w.does(order(1, "a", "A", 10, 100), "accepted ABC 1/a#1 10@100", "ABC buy 100: 10 of 1")
	w.does(order(1, "b", "A", -10, 100), "accepted ABC 1/b#2 10@100", "ABC sell 100: 10 of 1")
	w.goes(trading, "ABC Opening", "ABC auction 10@100, over 0 nothing", "traded ABC 1/a#1 0@100: buy 10@100", "traded ABC 1/b#2 0@100: sell 10@100", "ABC Trading", "ABC buy 100: 0 of 0", "ABC sell 100: 0 of 0")
	w.checkGuard("A", 0, 0)
}

func TestE8StopsWaitForTrading(t *testing.T) {
	w := start(t, preOpen)
	gtc := life(api.GTC)
	w.does(order(1, "w", "A", 1, 0, stop(100), gtc), "accepted ABC 1/w#1 1@0")
	w.does(order(1, "v", "A", -1, 0, stop(99), gtc), "accepted ABC 1/v#2 1@0")
	w.does(order(2, "b", "B", 1, 100, gtc), "accepted ABC 2/b#3 1@100", "ABC buy 100: 1 of 1")
	w.does(order(3, "s", "C", -1, 100, gtc), "accepted ABC 3/s#4 1@100", "ABC sell 100: 1 of 1")
	w.does(order(3, "o", "C", -1, 101, life(api.AtOpen)), "accepted ABC 3/o#5 1@101", "ABC sell 101: 1 of 1")
	w.goes(trading, "ABC Opening", "ABC auction 1@100, over 0 nothing", "traded ABC 2/b#3 0@100: buy 1@100", "traded ABC 3/s#4 0@100: sell 1@100", "expired ABC 3/o#5 1@101", "ABC Trading", "triggered ABC 1/w#1 1@0", "cancelled ABC 1/w#1 1@0", "ABC buy 100: 0 of 0", "ABC sell 100: 0 of 0", "ABC sell 101: 0 of 0")
	w.goes(closing, "ABC Closing")
	w.does(order(2, "c", "B", 1, 99), "accepted ABC 2/c#6 1@99", "ABC buy 99: 1 of 1")
	w.does(order(3, "t", "C", -1, 99), "accepted ABC 3/t#7 1@99", "ABC sell 99: 1 of 1")
	w.goes(closed, "ABC auction 1@99, over 0 nothing", "traded ABC 2/c#6 0@99: buy 1@99", "traded ABC 3/t#7 0@99: sell 1@99", "ABC Closed", "ABC buy 99: 0 of 0", "ABC sell 99: 0 of 0")
	w.goes(trading+day, "ABC PreOpen", "ABC Opening", "ABC Trading", "triggered ABC 1/v#2 1@0", "cancelled ABC 1/v#2 1@0")
}

func TestE9WhatExpiresAtTheClose(t *testing.T) {
	w := start(t, preOpen)
	w.does(order(1, "s1", "A", 1, 0, stop(120)), "accepted ABC 1/s1#1 1@0")
	w.does(order(1, "open", "A", 1, 80, life(api.AtOpen)), "accepted ABC 1/open#2 1@80", "ABC buy 80: 1 of 1")
	w.goes(trading, "ABC Opening", "expired ABC 1/open#2 1@80", "ABC Trading", "ABC buy 80: 0 of 0")
	w.does(order(1, "day", "A", 1, 81), "accepted ABC 1/day#3 1@81", "ABC buy 81: 1 of 1")
	w.does(order(1, "gtc", "A", 1, 82, life(api.GTC)), "accepted ABC 1/gtc#4 1@82", "ABC buy 82: 1 of 1")
	w.does(order(1, "s2", "A", 1, 0, stop(120), life(api.GTC)), "accepted ABC 1/s2#5 1@0")
	w.does(order(1, "s3", "A", 1, 121, stop(120), until(20240103)), "accepted ABC 1/s3#6 1@121")
	w.does(order(1, "post", "A", 1, 83, life(api.PostOnly)), "accepted ABC 1/post#7 1@83", "ABC buy 83: 1 of 1")
	w.does(order(1, "today", "A", 1, 84, until(20240103)), "accepted ABC 1/today#8 1@84", "ABC buy 84: 1 of 1")
	w.does(order(1, "morrow", "A", 1, 85, until(20240104)), "accepted ABC 1/morrow#9 1@85", "ABC buy 85: 1 of 1")
	w.does(order(1, "saturday", "A", 1, 86, until(20240106)), "accepted ABC 1/saturday#10 1@86", "ABC buy 86: 1 of 1")
	w.does(order(1, "late", "A", 1, 87, until(99991231)), "accepted ABC 1/late#11 1@87", "ABC buy 87: 1 of 1")
	w.does(order(1, "past", "A", 1, 87, until(20240102)), "refused ABC 1/past by 105")
	w.goes(closed, "ABC Closing", "ABC Closed", "expired ABC 1/s1#1 1@0", "expired ABC 1/day#3 1@81", "expired ABC 1/s3#6 1@121", "expired ABC 1/post#7 1@83", "expired ABC 1/today#8 1@84",
		"ABC buy 84: 0 of 0", "ABC buy 83: 0 of 0", "ABC buy 81: 0 of 0")
	w.checkGuard("A", 82+100+85+86+87, 0)
	w.checkOver(1, "day")
	w.goes(wednesday + day)
	w.goes(closed+day, "ABC PreOpen", "ABC Opening", "ABC Trading", "ABC Closing", "ABC Closed", "expired ABC 1/morrow#9 1@85", "ABC buy 85: 0 of 0")
	w.goes(closed+2*day, "ABC PreOpen", "ABC Opening", "ABC Trading", "ABC Closing", "ABC Closed")
	w.goes(preOpen+5*day, "ABC PreOpen") // a Monday: nothing closed on Saturday
	w.goes(closed+5*day, "ABC Opening", "ABC Trading", "ABC Closing", "ABC Closed", "expired ABC 1/saturday#10 1@86", "ABC buy 86: 0 of 0")
	w.checkGuard("A", 82+100+87, 0)
	w.does(cancel(1, "late"), "cancelled ABC 1/late#11 1@87", "ABC buy 87: 0 of 0")
}

func TestE9TheDayThatHasEndedAtMidnight(t *testing.T) {
	i := abc()
	i.Turns = turns(600, api.Trading) // it closes when the next day begins
	w := listedWorld(t, wednesday+10*hour, []api.Instrument{i})
	w.does(order(1, "today", "A", 1, 84, until(20240103)), "accepted ABC 1/today#1 1@84", "ABC buy 84: 1 of 1")
	w.does(order(1, "morrow", "A", 1, 85, until(20240104)), "accepted ABC 1/morrow#2 1@85", "ABC buy 85: 1 of 1")
	w.goes(wednesday + day - 1)
	w.goes(wednesday+day, "ABC Closed", "expired ABC 1/today#1 1@84", "ABC buy 84: 0 of 0")
	w.goes(wednesday + day + 10*hour - 1)
	w.goes(wednesday+day+10*hour, "ABC Opening", "ABC Trading")
	w.goes(wednesday+2*day, "ABC Closed", "expired ABC 1/morrow#2 1@85", "ABC buy 85: 0 of 0")
}

func TestE9TheDayThatHasEndedAtTheFirstTime(t *testing.T) {
	i := abc()
	i.Turns = turns(0, api.Trading)
	for _, x := range []struct {
		now  int64
		ends bool // whether a day of now counts as ended
	}{{0, true}, {1, true}, {day, false}, {day + 1, true}} {
		w := listedWorld(t, x.now, []api.Instrument{i})
		first, second := 19700101, 19700102
		if x.now >= day {
			first, second = 19700102, 19700105
		}
		w.does(order(1, "a", "A", 1, 84, until(first)), "accepted ABC 1/a#1 1@84", "ABC buy 84: 1 of 1")
		w.does(order(1, "b", "A", 1, 85, until(second)), "accepted ABC 1/b#2 1@85", "ABC buy 85: 1 of 1")
		want := []string{"ABC Closed", "expired ABC 1/a#1 1@84", "ABC buy 84: 0 of 0"}
		if !x.ends {
			want = want[:1]
		}
		w.goes(37*day, want...) // a Saturday
	}
}

func TestE9ClosedWithoutACall(t *testing.T) {
	i := abc()
	i.Turns = turns(480, api.PreOpen, 900, api.Closed)
	w := listedWorld(t, preOpen, []api.Instrument{i})
	w.does(order(1, "b", "A", 5, 110, life(api.GTC)), "accepted ABC 1/b#1 5@110", "ABC buy 110: 5 of 1")
	w.does(order(2, "s", "B", -5, 90), "accepted ABC 2/s#2 5@90", "ABC sell 90: 5 of 1")
	w.goes(closing, "ABC Closed", "expired ABC 2/s#2 5@90", "ABC sell 90: 0 of 0") // no auction, though prices crossed
	w.checkPhase("ABC", api.Closed, 100)
	w.checkGuard("A", 550, 0)
	w.checkGuard("B", 0, 0)
}

func TestE9AHaltedCloseHasNoAuction(t *testing.T) {
	w := start(t, closing)
	w.does(order(1, "b", "A", 5, 110, life(api.GTC)), "accepted ABC 1/b#1 5@110", "ABC buy 110: 5 of 1")
	w.does(order(2, "s", "B", -5, 90), "accepted ABC 2/s#2 5@90", "ABC sell 90: 5 of 1")
	w.does(halt("ABC"), "ABC Halted")
	w.goes(closed, "ABC Closed", "expired ABC 2/s#2 5@90", "ABC sell 90: 0 of 0")
}

func TestE9TheReferenceOfTheNextDayIsTheLastPrice(t *testing.T) {
	w := startBoth(t, trading)
	xy := symbol("XY")
	w.does(order(1, "a", "A", 10, 110, xy), "accepted XY 1/a#1 10@110", "XY buy 110: 10 of 1")
	w.does(order(2, "b", "B", -10, 110, xy), "accepted XY 2/b#2 10@110", "traded XY 1/a#1 0@110: buy 10@110", "traded XY 2/b#2 0@110: sell 10@110", "XY buy 110: 0 of 0")
	w.checkPhase("XY", api.Trading, 100)
	w.does(order(1, "c", "A", 10, 115, xy), "refused XY 1/c by 103")
	w.goes(trading+day, "ABC Closing", "XY Closed", "ABC Closed", "ABC PreOpen", "XY PreOpen", "ABC Opening", "ABC Trading", "XY Opening", "XY Trading")
	w.checkPhase("XY", api.Trading, 110)
	w.checkPhase("ABC", api.Trading, 100)
	w.does(order(1, "c", "A", 10, 120, xy), "accepted XY 1/c#3 10@120", "XY buy 120: 10 of 1")
	w.does(order(1, "d", "A", 10, 125, xy), "refused XY 1/d by 103")
	w.does(order(1, "e", "A", 10, 95, xy), "refused XY 1/e by 103")
}

func TestE9TimeBeginsInTheMidstOfADay(t *testing.T) {
	for _, x := range []struct {
		at   int64
		want []string
	}{
		{wednesday, nil},
		{preOpen - 1, nil},
		{preOpen, []string{"ABC PreOpen", "XY PreOpen"}},
		{trading, []string{"ABC PreOpen", "XY PreOpen", "ABC Opening", "ABC Trading", "XY Opening", "XY Trading"}},
		{closing, []string{"ABC PreOpen", "XY PreOpen", "ABC Opening", "ABC Trading", "XY Opening", "XY Trading", "ABC Closing", "XY Closed"}},
		{wednesday + day - 1, []string{"ABC PreOpen", "XY PreOpen", "ABC Opening", "ABC Trading", "XY Opening", "XY Trading", "ABC Closing", "XY Closed", "ABC Closed"}},
		{trading + 3*day, nil}, // a Saturday
		{trading + 4*day, nil},
		{0, nil},
		{8 * hour, []string{"ABC PreOpen", "XY PreOpen"}}, // a Thursday, the first day of all
	} {
		e, _ := New([]api.Instrument{abc(), other()}, nil, newCalendar(t))
		w := &world{t, e, 0}
		w.goes(x.at, x.want...)
	}
}

func TestE9ATurnAtTheVeryFirstTime(t *testing.T) {
	i := abc()
	i.Turns = turns(0, api.PreOpen, 1, api.Trading, 1439, api.Closed)
	e, _ := New([]api.Instrument{i}, nil, newCalendar(t))
	w := &world{t, e, 0}
	w.goes(0, "ABC PreOpen")
	w.goes(minute - 1)
	w.goes(minute, "ABC Opening", "ABC Trading")
	w.goes(day-minute, "ABC Closed")
	w.goes(day, "ABC PreOpen")
}

func TestE9TimesOneByOneAndInstrumentsByPlace(t *testing.T) {
	late, early, none := abc(), abc(), abc()
	late.Symbol, late.Turns = "LATE", turns(600, api.Trading, 700, api.Closed)
	early.Symbol, early.Turns = "EARLY", turns(540, api.PreOpen, 600, api.Trading, 700, api.Closing)
	none.Symbol, none.Turns = "NONE", nil
	e, _ := New([]api.Instrument{late, none, early}, nil, newCalendar(t, 20240104))
	w := &world{t, e, 0}
	w.goes(wednesday)
	day1 := []string{"EARLY PreOpen", "LATE Opening", "LATE Trading", "EARLY Opening", "EARLY Trading", "LATE Closed", "EARLY Closing"}
	w.goes(wednesday+day-1, day1...)
	w.goes(wednesday+2*day-1, "EARLY Closed") // when the day begins; there is no trade on it
	w.goes(wednesday+3*day-1, day1...)
	w.goes(wednesday+3*day, "EARLY Closed")
	w.goes(wednesday + 5*day)
	w.checkPhase("NONE", api.Closed, 100)
}

func TestE9TurnsThatChangeNothing(t *testing.T) {
	i := abc()
	i.Turns = turns(0, api.Trading, 540, api.Trading, 600, api.Closing, 700, api.Closing, 1439, api.Trading)
	w := listedWorld(t, trading, []api.Instrument{i})
	w.goes(trading + 1)
	w.goes(wednesday+10*hour, "ABC Closing")
	w.goes(wednesday + 12*hour)
	w.goes(wednesday+day-1, "ABC Opening", "ABC Trading") // a close that leads on to trade has no auction of its own: the opening has
	w.goes(wednesday + day + 9*hour)
	w.goes(wednesday+2*day-1, "ABC Closing", "ABC Opening", "ABC Trading")
	w.goes(wednesday+3*day, "ABC Closing", "ABC Opening", "ABC Trading", "ABC Closed") // a Saturday begins
}

func TestE9UpTo31DaysTurnByTurn(t *testing.T) {
	i := abc()
	i.Turns = turns(540, api.Trading, 600, api.Closed)
	w := listedWorld(t, trading, []api.Instrument{i})
	w.does(order(1, "a", "A", 1, 84, until(20240131)), "accepted ABC 1/a#1 1@84", "ABC buy 84: 1 of 1")
	w.does(order(1, "b", "A", 1, 85), "accepted ABC 1/b#2 1@85", "ABC buy 85: 1 of 1")
	want := []string{"ABC Closed", "expired ABC 1/b#2 1@85"}
	for n := 1; n <= 30; n++ {
		if weekday := (n + 3) % 7; weekday == 0 || weekday == 6 {
			continue
		}
		want = append(want, "ABC Opening", "ABC Trading", "ABC Closed")
		if n == 28 {
			want = append(want, "expired ABC 1/a#1 1@84")
		}
	}
	w.goes(trading+31*day, append(want, "ABC buy 85: 0 of 0", "ABC buy 84: 0 of 0")...) // a Saturday
	w = listedWorld(t, trading, []api.Instrument{i})
	w.does(order(1, "a", "A", 1, 84, until(20240131)), "accepted ABC 1/a#1 1@84", "ABC buy 84: 1 of 1")
	w.does(order(1, "b", "A", 1, 85), "accepted ABC 1/b#2 1@85", "ABC buy 85: 1 of 1")
	w.goes(trading+31*day+1, "ABC Closed", "expired ABC 1/b#2 1@85", "ABC buy 85: 0 of 0")
	w.checkGuard("A", 84, 0)
	w.goes(trading+33*day, "ABC Opening", "ABC Trading")
	// It expires when the instrument closes next.
	w.goes(trading+33*day+hour, "ABC Closed", "expired ABC 1/a#1 1@84", "ABC buy 84: 0 of 0")
}

func TestE9BeyondIt(t *testing.T) {
	first := abc()
	first.Symbol = "LATE"
	first.Turns = turns(540, api.Trading, 600, api.Closed)
	w := listedWorld(t, closing, []api.Instrument{first, abc(), other()})
	w.does(order(1, "b", "A", 5, 110), "accepted ABC 1/b#1 5@110", "ABC buy 110: 5 of 1")
	w.does(order(2, "s", "B", -3, 90), "accepted ABC 2/s#2 3@90", "ABC sell 90: 3 of 1")
	w.does(order(2, "t", "B", -3, 90, until(20240103)), "accepted ABC 2/t#3 3@90", "ABC sell 90: 6 of 2")
	// What is closed stays so; what is not closes as of now, with its auction; then the day of T, from its beginning on.
	w.goes(trading+33*day,
		"ABC auction 5@90, over 1 sell", "traded ABC 1/b#1 2@110: buy 3@90", "traded ABC 2/s#2 0@90: sell 3@90", "traded ABC 1/b#1 0@110: buy 2@90", "traded ABC 2/t#3 1@90: sell 2@90",
		"ABC Closed", "expired ABC 2/t#3 1@90",
		"ABC PreOpen", "XY PreOpen", "LATE Opening", "LATE Trading", "ABC Opening", "ABC Trading", "XY Opening", "XY Trading",
		"ABC buy 110: 0 of 0", "ABC sell 90: 0 of 0")
	w.checkPhase("ABC", api.Trading, 90)
	// What is held is held no more.
	w.does(halt("ABC"), "ABC Halted")
	w.does(halt("XY"), "XY Halted")
	w.goes(trading+71*day-9*hour, "LATE Closed", "ABC Closed", "XY Closed")
	w.goes(trading+71*day-hour, "ABC PreOpen", "XY PreOpen")
	w.does(resume("ABC"), "refused ABC 0/ by 2")
	w.goes(api.MaxTime-3*hour, "ABC Closed", "XY Closed", "ABC PreOpen", "XY PreOpen", "LATE Opening", "LATE Trading", "ABC Opening", "ABC Trading", "XY Opening", "XY Trading", "LATE Closed", "ABC Closing", "XY Closed", "ABC Closed")
}

func TestE9APhaseCountsFromItsEventOn(t *testing.T) {
	// The stop waits when the auction has traded at its price, and comes alive behind the EvPhase of Trading, at the price of the auction.
	w := start(t, preOpen, api.Account{Name: "A", Order: 500}, api.Account{Name: "B"}, api.Account{Name: "C"})
	w.does(order(1, "w", "A", 5, 0, stop(95)), "accepted ABC 1/w#1 5@0")
	w.checkGuard("A", 500, 0)
	w.does(order(2, "b", "B", 5, 98), "accepted ABC 2/b#2 5@98", "ABC buy 98: 5 of 1")
	w.does(order(3, "s", "C", -5, 98), "accepted ABC 3/s#3 5@98", "ABC sell 98: 5 of 1")
	w.does(order(3, "t", "C", -2, 99), "accepted ABC 3/t#4 2@99", "ABC sell 99: 2 of 1")
	w.goes(trading, "ABC Opening", "ABC auction 5@98, over 0 nothing", "traded ABC 2/b#2 0@98: buy 5@98", "traded ABC 3/s#3 0@98: sell 5@98", "ABC Trading", "triggered ABC 1/w#1 5@0", "traded ABC 1/w#1 3@0: buy 2@99", "traded ABC 3/t#4 0@99: sell 2@99", "cancelled ABC 1/w#1 3@0", "ABC buy 98: 0 of 0", "ABC sell 98: 0 of 0", "ABC sell 99: 0 of 0")
	w.checkGuard("A", 0, 2)
}
