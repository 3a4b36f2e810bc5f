package stops

import (
	"fmt"
	"math"
	"slices"
	"strings"
	"sync"
	"testing"

	"outcry/api"
)

func market(id, side int, stop int64) api.Order {
	return api.Order{ID: id, Side: side, Type: api.Stop, Stop: stop, Qty: 10}
}

func limit(id, side int, stop, price int64) api.Order {
	return api.Order{ID: id, Side: side, Type: api.StopLimit, Stop: stop, Price: price, Qty: 10}
}

func filled(t *testing.T, orders ...api.Order) *Stops {
	t.Helper()
	s := New()
	for _, o := range orders {
		if e := s.Add(o); e != api.OK {
			t.Fatalf("Add of %+v: %d", o, e)
		}
	}
	return s
}

func ids(orders []api.Order) string {
	var list []string
	for _, o := range orders {
		list = append(list, fmt.Sprint(o.ID))
	}
	return strings.Join(list, " ")
}

func checkIDs(t *testing.T, name string, orders []api.Order, want string) {
	t.Helper()
	if got := ids(orders); got != want {
		t.Errorf("%s: %q, want %q", name, got, want)
	}
}

func checkOrders(t *testing.T, name string, got []api.Order, want ...api.Order) {
	t.Helper()
	if !slices.Equal(got, want) {
		t.Errorf("%s: %+v, want %+v", name, got, want)
	}
}

func checkErrno(t *testing.T, name string, got, want api.Errno) {
	t.Helper()
	if got != want {
		t.Errorf("%s: %d, want %d", name, got, want)
	}
}

func as(o api.Order, kind int) api.Order {
	o.Type = kind
	return o
}

func TestExamples(t *testing.T) {
	one, two, three, four := market(1, api.Buy, 100), market(2, api.Sell, 90), limit(3, api.Buy, 105, 106), market(4, api.Buy, 100)
	s := filled(t, one, two, three, four)
	checkOrders(t, "Trade(95)", s.Trade(95))
	checkErrno(t, "less", s.Replace(1, 100, 0, 7), api.OK)
	one.Qty = 7
	checkOrders(t, "it waits where it was", s.Orders(), one, two, three, four)
	checkErrno(t, "another Stop", s.Replace(1, 101, 0, 7), api.OK)
	one.Stop = 101
	checkOrders(t, "behind 4", s.Orders(), two, three, four, one)
	checkOrders(t, "Trade(101)", s.Trade(101), as(four, api.Market), as(one, api.Market))
	checkOrders(t, "Trade(80)", s.Trade(80), as(two, api.Market))
	checkOrders(t, "Orders", s.Orders(), three)
	checkOrders(t, "Trade(200)", s.Trade(200), as(three, api.Limit))
	checkErrno(t, "a Limit order", s.Add(as(three, api.Limit)), api.ErrType)
	checkErrno(t, "of Stop 0", s.Add(market(1, api.Buy, 0)), api.ErrType)
	checkErrno(t, "of Stop with a Price", s.Add(as(three, api.Stop)), api.ErrType)
}

func TestW1New(t *testing.T) {
	s := New()
	checkOrders(t, "Orders", s.Orders())
	for _, price := range []int64{math.MinInt64, 0, 1, 100, api.MaxPrice, math.MaxInt64} {
		checkOrders(t, "Trade", s.Trade(price))
	}
	o, e := s.Order(1)
	c, f := s.Cancel(1)
	if e != api.ErrNone || f != api.ErrNone || o != (api.Order{}) || c != o {
		t.Errorf("of none: %d, %+v, %d, %+v", e, o, f, c)
	}
	checkErrno(t, "Replace", s.Replace(1, 100, 0, 5), api.ErrNone)
}

func TestW2WhatIsAStop(t *testing.T) {
	for _, c := range []struct {
		name string
		turn func(o *api.Order)
		stop bool
		also bool // of StopLimit
	}{
		{"as it is", func(o *api.Order) {}, true, true},
		{"sell", func(o *api.Order) { o.Side = api.Sell }, true, true},
		{"Side 0", func(o *api.Order) { o.Side = 0 }, false, false},
		{"Side 3", func(o *api.Order) { o.Side = 3 }, false, false},
		{"Side -1", func(o *api.Order) { o.Side = -1 }, false, false},
		{"Side far off", func(o *api.Order) { o.Side = math.MinInt }, false, false},
		{"Limit", func(o *api.Order) { o.Type = api.Limit }, false, false},
		{"Market", func(o *api.Order) { o.Type = api.Market }, false, false},
		{"Type 0", func(o *api.Order) { o.Type = 0 }, false, false},
		{"Type 5", func(o *api.Order) { o.Type = 5 }, false, false},
		{"Type -3", func(o *api.Order) { o.Type = -3 }, false, false},
		{"ID 0", func(o *api.Order) { o.ID = 0 }, false, false},
		{"ID -1", func(o *api.Order) { o.ID = -1 }, false, false},
		{"the least ID", func(o *api.Order) { o.ID = math.MinInt }, false, false},
		{"ID 1", func(o *api.Order) { o.ID = 1 }, true, true},
		{"the greatest ID", func(o *api.Order) { o.ID = math.MaxInt }, true, true},
		{"Stop 0", func(o *api.Order) { o.Stop = 0 }, false, false},
		{"Stop -1", func(o *api.Order) { o.Stop = -1 }, false, false},
		{"Stop far below", func(o *api.Order) { o.Stop = math.MinInt64 }, false, false},
		{"Stop 1", func(o *api.Order) { o.Stop = 1 }, true, true},
		{"Stop MaxPrice", func(o *api.Order) { o.Stop = api.MaxPrice }, true, true},
		{"Stop above", func(o *api.Order) { o.Stop = api.MaxPrice + 1 }, false, false},
		{"Stop far above", func(o *api.Order) { o.Stop = math.MaxInt64 }, false, false},
		{"Qty 0", func(o *api.Order) { o.Qty = 0 }, false, false},
		{"Qty -1", func(o *api.Order) { o.Qty = -1 }, false, false},
		{"Qty far below", func(o *api.Order) { o.Qty = math.MinInt64 }, false, false},
		{"Qty 1", func(o *api.Order) { o.Qty = 1 }, true, true},
		{"Qty MaxQty", func(o *api.Order) { o.Qty = api.MaxQty }, true, true},
		{"Qty above", func(o *api.Order) { o.Qty = api.MaxQty + 1 }, false, false},
		{"Qty far above", func(o *api.Order) { o.Qty = math.MaxInt64 }, false, false},
		{"Price 0", func(o *api.Order) { o.Price = 0 }, true, false},
		{"Price 1", func(o *api.Order) { o.Price = 1 }, false, true},
		{"Price -1", func(o *api.Order) { o.Price = -1 }, false, false},
		{"Price far below", func(o *api.Order) { o.Price = math.MinInt64 }, false, false},
		{"Price MaxPrice", func(o *api.Order) { o.Price = api.MaxPrice }, false, true},
		{"Price above", func(o *api.Order) { o.Price = api.MaxPrice + 1 }, false, false},
		{"Price far above", func(o *api.Order) { o.Price = math.MaxInt64 }, false, false},
	} {
		for _, x := range []struct {
			o    api.Order
			want bool
		}{{market(7, api.Buy, 100), c.stop}, {limit(7, api.Buy, 100, 110), c.also}} {
			s := New()
			c.turn(&x.o)
			e := s.Add(x.o)
			if x.want {
				checkErrno(t, c.name, e, api.OK)
				checkOrders(t, c.name, s.Orders(), x.o)
			} else {
				checkErrno(t, c.name, e, api.ErrType)
				checkOrders(t, c.name, s.Orders())
			}
		}
	}
}

// whole has something in every field; what is no part of a stop may be anything.
func whole(id int) api.Order {
	return api.Order{ID: id, Name: "n\x00", Account: "ä", Symbol: strings.Repeat("x", 99), Side: api.Sell, Type: api.StopLimit, Life: -7,
		Price: 4, Stop: 50, Qty: 9, Show: math.MinInt64, Done: math.MaxInt64, Least: -1, Until: math.MinInt, Owner: -5}
}

func TestOtherFieldsStay(t *testing.T) {
	o := whole(8)
	s := filled(t, o, whole(9))
	got, e := s.Order(8)
	if e != api.OK || got != o {
		t.Errorf("Order: %d, %+v", e, got)
	}
	checkErrno(t, "Replace", s.Replace(8, 51, 5, 10), api.OK)
	o.Stop, o.Price, o.Qty = 51, 5, 10
	checkOrders(t, "Orders", s.Orders(), whole(9), o)
	got, e = s.Cancel(8)
	if e != api.OK || got != o {
		t.Errorf("Cancel: %d, %+v", e, got)
	}
	checkOrders(t, "Trade", s.Trade(50), as(whole(9), api.Limit))
}

func TestW2Add(t *testing.T) {
	s := filled(t, market(3, api.Buy, 100), market(2, api.Sell, 100), market(1, api.Buy, 5))
	checkIDs(t, "behind all others, whatever the ID, side and price", s.Orders(), "3 2 1")
	checkErrno(t, "known", s.Add(market(2, api.Sell, 100)), api.ErrKnown)
	checkErrno(t, "known, on the other side", s.Add(limit(2, api.Buy, 7, 8)), api.ErrKnown)
	checkErrno(t, "no stop goes ahead of known", s.Add(market(2, api.Sell, 0)), api.ErrType)
	checkOrders(t, "nothing has changed", s.Orders(), market(3, api.Buy, 100), market(2, api.Sell, 100), market(1, api.Buy, 5))
	s.Cancel(3)
	checkErrno(t, "one that waits no more", s.Add(limit(3, api.Sell, 9, 9)), api.OK)
	checkIDs(t, "behind all others", s.Orders(), "2 1 3")
	checkIDs(t, "come alive", s.Trade(5), "2 1 3")
	checkErrno(t, "one that came alive", s.Add(market(1, api.Sell, 1)), api.OK)
	checkOrders(t, "it waits again", s.Orders(), market(1, api.Sell, 1))
}

// full has as many as there may be, on both sides or on one.
func full(t *testing.T, side func(i int) int) *Stops {
	t.Helper()
	s := New()
	for i := range api.MaxStops {
		checkErrno(t, "Add", s.Add(market(i+1, side(i), int64(i+1))), api.OK)
	}
	return s
}

func TestW2Many(t *testing.T) {
	for _, side := range []func(i int) int{
		func(i int) int { return api.Buy },
		func(i int) int { return api.Sell },
		func(i int) int { return 1 + i%2 },
	} {
		s := full(t, side)
		for _, o := range []api.Order{market(201, api.Buy, 7), limit(999, api.Sell, 7, 7)} {
			checkErrno(t, "many", s.Add(o), api.ErrMany)
			_, e := s.Order(o.ID)
			checkErrno(t, "it does not wait", e, api.ErrNone)
		}
		checkErrno(t, "known goes ahead of many", s.Add(market(200, api.Buy, 7)), api.ErrKnown)
		checkErrno(t, "no stop goes ahead of many", s.Add(market(201, api.Buy, 0)), api.ErrType)
		checkErrno(t, "Replace of one of many", s.Replace(1, 300, 0, 5), api.OK)
		if n := len(s.Orders()); n != api.MaxStops {
			t.Errorf("%d wait", n)
		}
		s.Cancel(100)
		checkErrno(t, "there is room", s.Add(market(201, api.Buy, 7)), api.OK)
		checkErrno(t, "there is none", s.Add(market(202, api.Buy, 7)), api.ErrMany)
		woken := s.Trade(150)
		for i := range woken {
			checkErrno(t, "room of those that came alive", s.Add(market(1000+i, api.Buy, 500)), api.OK)
		}
		checkErrno(t, "no more than that", s.Add(market(2000, api.Buy, 500)), api.ErrMany)
		if len(woken) == 0 || len(s.Orders()) != api.MaxStops {
			t.Errorf("%d came alive, %d wait", len(woken), len(s.Orders()))
		}
	}
}

func TestW3CancelAndOrder(t *testing.T) {
	one, two, three := market(1, api.Buy, 100), limit(2, api.Sell, 90, 89), market(3, api.Sell, 95)
	s := filled(t, one, two, three)
	for _, id := range []int{math.MinInt, -1, 0, 4, math.MaxInt} {
		o, e := s.Order(id)
		c, f := s.Cancel(id)
		if e != api.ErrNone || f != api.ErrNone || o != (api.Order{}) || c != o {
			t.Errorf("of %d: %d, %+v, %d, %+v", id, e, o, f, c)
		}
	}
	for range 2 {
		if o, e := s.Order(2); e != api.OK || o != two {
			t.Errorf("Order: %d, %+v", e, o)
		}
	}
	checkOrders(t, "all wait", s.Orders(), one, two, three)
	if o, e := s.Cancel(2); e != api.OK || o != two {
		t.Errorf("Cancel: %d, %+v", e, o)
	}
	_, e := s.Cancel(2)
	_, f := s.Order(2)
	if e != api.ErrNone || f != api.ErrNone {
		t.Errorf("it waits no more: %d, %d", e, f)
	}
	checkErrno(t, "nor can it be replaced", s.Replace(2, 90, 89, 5), api.ErrNone)
	checkOrders(t, "the others wait", s.Orders(), one, three)
	checkIDs(t, "what was cancelled does not come alive", s.Trade(1), "3")
	if o, e := s.Cancel(1); e != api.OK || o != one {
		t.Errorf("Cancel of the last: %d, %+v", e, o)
	}
	checkIDs(t, "nor on the other side", s.Trade(api.MaxPrice), "")
	_, e = s.Cancel(3)
	_, f = s.Order(3)
	if e != api.ErrNone || f != api.ErrNone {
		t.Errorf("what came alive waits no more: %d, %d", e, f)
	}
	checkErrno(t, "nor can that be replaced", s.Replace(3, 90, 0, 5), api.ErrNone)
}

func TestW3ReplaceKeepsOrLosesItsTurn(t *testing.T) {
	for _, c := range []struct {
		name             string
		id               int
		stop, price, qty int64
		order            string
	}{
		{"as it was", 1, 100, 0, 10, "1 2 3 4"},
		{"less", 1, 100, 0, 9, "1 2 3 4"},
		{"the least", 1, 100, 0, 1, "1 2 3 4"},
		{"more", 1, 100, 0, 11, "2 3 4 1"},
		{"the most", 1, 100, 0, api.MaxQty, "2 3 4 1"},
		{"Stop above", 1, 101, 0, 10, "2 3 4 1"},
		{"Stop below", 1, 99, 0, 10, "2 3 4 1"},
		{"Stop above, and less", 1, 101, 0, 1, "2 3 4 1"},
		{"the least Stop", 1, 1, 0, 10, "2 3 4 1"},
		{"the greatest Stop", 1, api.MaxPrice, 0, 10, "2 3 4 1"},
		{"as it was, with a Price", 2, 100, 110, 10, "1 2 3 4"},
		{"less, with a Price", 2, 100, 110, 9, "1 2 3 4"},
		{"more, with a Price", 2, 100, 110, 11, "1 3 4 2"},
		{"Price above", 2, 100, 111, 10, "1 3 4 2"},
		{"Price below", 2, 100, 109, 10, "1 3 4 2"},
		{"Price below, and less", 2, 100, 109, 1, "1 3 4 2"},
		{"the least Price", 2, 100, 1, 10, "1 3 4 2"},
		{"the greatest Price", 2, 100, api.MaxPrice, 10, "1 3 4 2"},
		{"another Stop, with a Price", 2, 101, 110, 10, "1 3 4 2"},
		{"a sell as it was", 3, 100, 0, 10, "1 2 3 4"},
		{"a sell of more", 3, 100, 0, 11, "1 2 4 3"},
		{"a sell at another Stop", 3, 99, 0, 10, "1 2 4 3"},
		{"the last as it was", 4, 100, 90, 10, "1 2 3 4"},
		{"the last at another Price", 4, 100, 91, 10, "1 2 3 4"},
	} {
		s := filled(t, market(1, api.Buy, 100), limit(2, api.Buy, 100, 110), market(3, api.Sell, 100), limit(4, api.Sell, 100, 90))
		want, _ := s.Order(c.id)
		want.Stop, want.Price, want.Qty = c.stop, c.price, c.qty
		checkErrno(t, c.name, s.Replace(c.id, c.stop, c.price, c.qty), api.OK)
		checkIDs(t, c.name, s.Orders(), c.order)
		if got, e := s.Order(c.id); e != api.OK || got != want {
			t.Errorf("%s: %d, %+v, want %+v", c.name, e, got, want)
		}
	}
}

// What it is measured by is how it is, not how it was added.
func TestW3ReplaceTwice(t *testing.T) {
	s := filled(t, market(1, api.Buy, 100), market(2, api.Buy, 100))
	s.Replace(1, 100, 0, 5)
	checkErrno(t, "more again", s.Replace(1, 100, 0, 10), api.OK)
	checkIDs(t, "though not above what it was at first", s.Orders(), "2 1")
	s.Replace(2, 101, 0, 10)
	s.Replace(1, 100, 0, 4)
	checkIDs(t, "the first of two again", s.Orders(), "1 2")
	s.Replace(2, 100, 0, 10)
	checkIDs(t, "together", s.Trade(100), "1 2")
}

func TestW3ReplaceRefused(t *testing.T) {
	s := filled(t, market(1, api.Buy, 100), limit(2, api.Sell, 90, 80))
	for _, c := range []struct {
		id               int
		stop, price, qty int64
		want             api.Errno
	}{
		{3, 100, 0, 5, api.ErrNone},
		{0, 0, 0, 0, api.ErrNone},
		{math.MinInt, -1, -1, -1, api.ErrNone},
		{1, 0, 0, 5, api.ErrType},
		{1, -1, 0, 5, api.ErrType},
		{1, api.MaxPrice + 1, 0, 5, api.ErrType},
		{1, math.MinInt64, 0, 5, api.ErrType},
		{1, math.MaxInt64, 0, 5, api.ErrType},
		{1, 100, 1, 5, api.ErrType},
		{1, 100, -1, 5, api.ErrType},
		{1, 100, 0, 0, api.ErrType},
		{1, 100, 0, -1, api.ErrType},
		{1, 100, 0, api.MaxQty + 1, api.ErrType},
		{1, 100, 0, math.MaxInt64, api.ErrType},
		{1, 100, 0, math.MinInt64, api.ErrType},
		{2, 90, 0, 5, api.ErrType},
		{2, 90, -1, 5, api.ErrType},
		{2, 90, api.MaxPrice + 1, 5, api.ErrType},
		{2, 90, math.MaxInt64, 5, api.ErrType},
		{2, 0, 80, 5, api.ErrType},
		{2, 90, 80, 0, api.ErrType},
	} {
		checkErrno(t, fmt.Sprint(c), s.Replace(c.id, c.stop, c.price, c.qty), c.want)
	}
	checkOrders(t, "nothing has changed", s.Orders(), market(1, api.Buy, 100), limit(2, api.Sell, 90, 80))
	checkIDs(t, "nor when they come alive", s.Trade(99), "")
	checkIDs(t, "a buy", s.Trade(100), "1")
	checkIDs(t, "a sell", s.Trade(90), "2")
}

// What was replaced comes alive by its new Stop alone, wherever it stands among the others.
func TestW3ReplaceMovesTheStop(t *testing.T) {
	for _, side := range []int{api.Buy, api.Sell} {
		for moved := 1; moved <= 7; moved++ {
			for to := int64(5); to <= 80; to += 10 {
				s := New()
				for id := 1; id <= 7; id++ {
					s.Add(market(id, side, int64(id*10)))
				}
				s.Replace(moved, to, 0, 10)
				for step := range int64(90) {
					price := step
					if side == api.Sell {
						price = 89 - step
					}
					want := ""
					if price%10 == 0 && 10 <= price && price <= 70 && int(price/10) != moved {
						want = fmt.Sprint(price / 10)
					}
					if price == to {
						want = strings.TrimSpace(want + " " + fmt.Sprint(moved))
					}
					checkIDs(t, fmt.Sprintf("side %d: %d, moved to %d, at %d", side, moved, to, price), s.Trade(price), want)
				}
			}
		}
	}
}

func TestW4WhoComesAlive(t *testing.T) {
	for _, c := range []struct {
		price int64
		woken string
	}{
		{math.MinInt64, "4 5 6"},
		{-1, "4 5 6"},
		{0, "4 5 6"},
		{1, "1 4 5 6"},
		{2, "1 5 6"},
		{99, "1 5 6"},
		{100, "1 2 5 6"},
		{101, "1 2 6"},
		{api.MaxPrice - 1, "1 2 6"},
		{api.MaxPrice, "1 2 3 6"},
		{api.MaxPrice + 1, "1 2 3"},
		{math.MaxInt64, "1 2 3"},
	} {
		s := filled(t, market(1, api.Buy, 1), limit(2, api.Buy, 100, 50), market(3, api.Buy, api.MaxPrice),
			limit(4, api.Sell, 1, 50), market(5, api.Sell, 100), limit(6, api.Sell, api.MaxPrice, 50))
		name := fmt.Sprint("at ", c.price)
		checkIDs(t, name, s.Trade(c.price), c.woken)
		checkIDs(t, name+" again", s.Trade(c.price), "")
		left := slices.DeleteFunc([]string{"1", "2", "3", "4", "5", "6"}, func(id string) bool { return strings.Contains(c.woken, id) })
		checkIDs(t, name+": what waits", s.Orders(), strings.Join(left, " "))
	}
}

// The limit of a StopLimit does not count for when it comes alive.
func TestW4PriceDoesNotWake(t *testing.T) {
	s := filled(t, limit(1, api.Buy, 100, 50), limit(2, api.Sell, 50, 100))
	checkIDs(t, "between", s.Trade(75), "")
	checkIDs(t, "up to its Stop", s.Trade(99), "")
	checkOrders(t, "its Stop", s.Trade(100), as(limit(1, api.Buy, 100, 50), api.Limit))
	checkOrders(t, "the other's", s.Trade(50), as(limit(2, api.Sell, 50, 100), api.Limit))
}

func TestW4InTheOrderInWhichTheyWait(t *testing.T) {
	s := filled(t, market(9, api.Sell, 60), market(8, api.Buy, 50), market(7, api.Buy, 40), limit(6, api.Sell, 55, 1),
		market(5, api.Buy, 45), market(4, api.Sell, 70), limit(3, api.Buy, 51, 9), market(2, api.Sell, 49))
	s.Replace(8, 50, 0, 3)
	s.Replace(9, 60, 0, 11)
	checkOrders(t, "both sides alike", s.Trade(50),
		api.Order{ID: 8, Side: api.Buy, Type: api.Market, Stop: 50, Qty: 3},
		as(market(7, api.Buy, 40), api.Market), as(limit(6, api.Sell, 55, 1), api.Limit), as(market(5, api.Buy, 45), api.Market),
		as(market(4, api.Sell, 70), api.Market), api.Order{ID: 9, Side: api.Sell, Type: api.Market, Stop: 60, Qty: 11})
	checkIDs(t, "what waits", s.Orders(), "3 2")
}

// An order that comes when a trade is done already waits for the next one.
func TestW4LastTradeDoesNotCount(t *testing.T) {
	s := New()
	s.Trade(100)
	s.Add(market(1, api.Buy, 100))
	s.Add(market(2, api.Sell, 100))
	checkIDs(t, "they wait", s.Orders(), "1 2")
	s.Replace(1, 90, 0, 10)
	checkIDs(t, "a replaced one waits, too", s.Orders(), "2 1")
	checkIDs(t, "the next one", s.Trade(100), "2 1")
}

func TestW5Orders(t *testing.T) {
	s := New()
	var want []api.Order
	for i := range api.MaxStops {
		o := limit(1000-i, 1+i%2, int64(1+i*37%101), int64(1+i))
		s.Add(o)
		want = append(want, o)
		checkOrders(t, "so far", s.Orders(), want...)
	}
	for range 3 {
		checkOrders(t, "all", s.Orders(), want...)
	}
	for i := len(want) - 1; i >= 0; i -= 3 {
		s.Cancel(want[i].ID)
		want = slices.Delete(want, i, i+1)
		checkOrders(t, "what is left", s.Orders(), want...)
	}
}

func TestP3Memory(t *testing.T) {
	one, two, three := market(1, api.Buy, 100), market(2, api.Sell, 90), limit(3, api.Buy, 105, 106)
	s := filled(t, one, two, three)
	first, second := s.Orders(), s.Orders()
	spoil(first)
	checkOrders(t, "another list", second, one, two, three)
	checkOrders(t, "what waits", s.Orders(), one, two, three)
	woken := s.Trade(100)
	spoil(second)
	checkOrders(t, "what came alive", woken, as(one, api.Market))
	spoil(woken)
	checkOrders(t, "what waits still", s.Orders(), two, three)
	both := s.Orders()
	s.Replace(2, 80, 0, 1)
	s.Cancel(3)
	checkOrders(t, "a list stays as it was told", both, two, three)
}

// spoil writes over a list, and over its spare room.
func spoil(list []api.Order) {
	list = list[:cap(list)]
	for i := range list {
		list[i] = api.Order{ID: -1, Side: 9, Stop: -1}
	}
}

func TestP4StandAlone(t *testing.T) {
	a, b := New(), New()
	checkErrno(t, "a", a.Add(market(1, api.Buy, 100)), api.OK)
	checkErrno(t, "b", b.Add(market(1, api.Sell, 90)), api.OK)
	a.Trade(100)
	checkIDs(t, "b's", b.Orders(), "1")
	checkIDs(t, "a's", a.Orders(), "")
	var wg sync.WaitGroup
	for range 8 {
		wg.Go(func() {
			s := New()
			for i := range 150 {
				s.Add(market(i+1, 1+i%2, int64(100+i%7)))
			}
			if got := s.Trade(103); len(got) != 85 || !slices.IsSortedFunc(got, func(a, b api.Order) int { return a.ID - b.ID }) {
				t.Errorf("%d come alive: %s", len(got), ids(got))
			}
		})
	}
	wg.Wait()
}
