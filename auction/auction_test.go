package auction

import (
	"math"
	"slices"
	"sync"
	"testing"

	"outcry/api"
)

func limit(id int, price, qty int64) api.Order {
	return api.Order{ID: id, Type: api.Limit, Price: price, Qty: qty}
}

func market(id int, qty int64) api.Order {
	return api.Order{ID: id, Type: api.Market, Qty: qty}
}

func list(orders ...api.Order) []api.Order { return orders }

type priceCase struct {
	name        string
	buys, sells []api.Order
	reference   int64
	want        Result
}

func checkPrices(t *testing.T, cases []priceCase) {
	t.Helper()
	for _, c := range cases {
		if got := Price(c.buys, c.sells, c.reference); got != c.want {
			t.Errorf("%s: %+v, want %+v", c.name, got, c.want)
		}
	}
}

func checkFills(t *testing.T, name string, got, want []api.Fill) {
	t.Helper()
	if !slices.Equal(got, want) {
		t.Errorf("%s: %+v, want %+v", name, got, want)
	}
}

func TestExamples(t *testing.T) {
	buys := list(limit(1, 102, 100), limit(2, 101, 50))
	sells := list(limit(3, 100, 80), limit(4, 101, 60))
	for _, c := range []struct{ price, bought, sold int64 }{{100, 150, 80}, {101, 150, 140}, {102, 100, 140}} {
		if b, s := Curve(buys, sells, c.price); b != c.bought || s != c.sold {
			t.Errorf("at %d: %d and %d", c.price, b, s)
		}
	}
	one, other := list(limit(1, 105, 10)), list(limit(2, 100, 10))
	bare, back := list(market(1, 10)), list(market(2, 10))
	checkPrices(t, []priceCase{
		{"most is traded", buys, sells, 0, Result{101, 140, 10, api.Buy}},
		{"the nearest", one, other, 102, Result{Price: 102, Qty: 10}},
		{"the reference 0", one, other, 0, Result{Price: 100, Qty: 10}},
		{"a reference at which nothing is traded", one, other, 200, Result{Price: 105, Qty: 10}},
		{"Market alone", bare, back, 50, Result{Price: 50, Qty: 10}},
		{"Market alone, no reference", bare, back, 0, Result{}},
	})
	checkFills(t, "fills", Fills(buys, sells, Price(buys, sells, 0)), []api.Fill{
		{Buy: 1, Sell: 3, Price: 101, Qty: 80}, {Buy: 1, Sell: 4, Price: 101, Qty: 20}, {Buy: 2, Sell: 4, Price: 101, Qty: 40},
	})
}

func TestU1NoResult(t *testing.T) {
	b, s := list(limit(1, 100, 10)), list(limit(2, 100, 10))
	checkPrices(t, []priceCase{
		{"nobody", nil, nil, 0, Result{}},
		{"a reference alone", nil, nil, 100, Result{}},
		{"no sells", b, nil, 100, Result{}},
		{"no buys", nil, s, 100, Result{}},
		{"apart", list(limit(1, 99, 10)), s, 99, Result{}},
		{"apart, and a reference between", list(limit(1, 98, 10)), s, 99, Result{}},
		{"Market alone, a reference below 1", list(market(1, 5)), list(market(2, 5)), -1, Result{}},
		{"Market alone, a reference above all", list(market(1, 5)), list(market(2, 5)), api.MaxPrice + 1, Result{}},
		{"Market alone on one side", list(market(1, 5)), nil, 100, Result{}},
		{"they meet", b, s, 0, Result{Price: 100, Qty: 10}},
		{"Market alone, the least reference", list(market(1, 5)), list(market(2, 5)), 1, Result{Price: 1, Qty: 5}},
		{"Market alone, the greatest reference", list(market(1, 5)), list(market(2, 5)), api.MaxPrice, Result{Price: api.MaxPrice, Qty: 5}},
		{"Market and a limit", list(market(1, 5)), s, 0, Result{100, 5, 5, api.Sell}},
		{"the price of one that does not trade", list(market(1, 5), limit(3, 70, 1)), list(market(2, 5)), 0, Result{70, 5, 1, api.Buy}},
	})
}

func TestWhoCounts(t *testing.T) {
	other := list(market(9, 1000))
	for _, c := range []struct {
		o    api.Order
		want bool
	}{
		{limit(1, 100, 1), true},
		{limit(1, 100, api.MaxQty), true},
		{limit(1, 1, 5), true},
		{limit(1, api.MaxPrice, 5), true},
		{limit(1, 100, 0), false},
		{limit(1, 100, -5), false},
		{limit(1, 100, api.MaxQty+1), false},
		{limit(1, 100, math.MaxInt64), false},
		{limit(1, 100, math.MinInt64), false},
		{limit(1, 0, 5), false},
		{limit(1, -1, 5), false},
		{limit(1, api.MaxPrice+1, 5), false},
		{limit(1, math.MaxInt64, 5), false},
		{limit(1, math.MinInt64, 5), false},
		{market(1, 1), true},
		{market(1, api.MaxQty), true},
		{market(1, 0), false},
		{market(1, -1), false},
		{market(1, api.MaxQty+1), false},
		{api.Order{ID: 1, Type: api.Market, Price: -7, Qty: 5}, true},
		{api.Order{ID: 1, Type: api.Market, Price: math.MaxInt64, Qty: 5}, true},
		{api.Order{Type: api.StopLimit, Price: 100, Qty: 5}, true},
		{api.Order{Type: api.Stop, Price: 100, Qty: 5}, true},
		{api.Order{Type: api.Stop, Qty: 5}, false},
		{api.Order{Type: 0, Price: 100, Qty: 5}, true},
		{api.Order{Type: -1, Price: 100, Qty: 5}, true},
		{api.Order{ID: math.MinInt, Type: 99, Price: 100, Qty: 5}, true},
	} {
		want := int64(0)
		if c.want {
			want = c.o.Qty
		}
		p := int64(50)
		if c.o.Type != api.Market && isPrice(c.o.Price) {
			p = c.o.Price
		}
		if b, s := Curve(list(c.o), nil, p); b != want || s != 0 {
			t.Errorf("%+v is bought: %d, %d", c.o, b, s)
		}
		if b, s := Curve(nil, list(c.o), p); b != 0 || s != want {
			t.Errorf("%+v is sold: %d, %d", c.o, b, s)
		}
		traded := min(want, 1000)
		if r := Price(list(c.o), other, 50); r.Qty != traded {
			t.Errorf("%+v buys: %+v", c.o, r)
		}
		if r := Price(other, list(c.o), 50); r.Qty != traded {
			t.Errorf("%+v sells: %+v", c.o, r)
		}
		if got := Fills(list(c.o), other, Result{Price: p, Qty: 2000}); (len(got) == 1) != c.want {
			t.Errorf("%+v buys: %+v", c.o, got)
		}
		if got := Fills(other, list(c.o), Result{Price: p, Qty: 2000}); (len(got) == 1) != c.want {
			t.Errorf("%+v sells: %+v", c.o, got)
		}
	}
}

// What an order has beside ID, Type, Price and Qty does not count.
func TestWhatCountsOfAnOrder(t *testing.T) {
	buy := api.Order{ID: 1, Name: "x", Account: "A", Symbol: "ABC", Side: api.Sell, Type: api.Limit, Life: api.IOC, Price: 101, Stop: 5, Qty: 50, Show: 5, Done: 7, Least: 90, Until: 3, Owner: 4}
	sell := buy
	sell.ID, sell.Side, sell.Price = 2, api.Buy, 100
	want := Result{Price: 100, Qty: 50}
	if got := Price(list(buy), list(sell), 0); got != want {
		t.Errorf("%+v, want %+v", got, want)
	}
	checkFills(t, "fills", Fills(list(buy), list(sell), want), []api.Fill{{Buy: 1, Sell: 2, Price: 100, Qty: 50}})
}

func TestCandidates(t *testing.T) {
	// Market orders have no candidates, whatever their Price says.
	buy, sell := market(1, 10), market(2, 10)
	buy.Price, sell.Price = 103, 104
	checkPrices(t, []priceCase{
		{"the Price of Market", list(buy), list(sell), 0, Result{}},
		{"the Price of Market, and a reference", list(buy), list(sell), 7, Result{Price: 7, Qty: 10}},
		{"the Price of Market, and a limit", list(buy), list(sell, limit(3, 110, 1)), 104, Result{Price: 104, Qty: 10}},
		{"who does not count is no candidate", list(market(1, 10), limit(5, 103, 0)), list(market(2, 10), limit(6, 104, api.MaxQty+1)), 0, Result{}},
		{"who does not count is not the reference", list(limit(1, 105, 10), limit(5, 103, 0)), list(limit(2, 100, 10)), 103, Result{Price: 103, Qty: 10}},
		{"one that is not counted between", list(limit(1, 105, 10), limit(5, 103, 0)), list(limit(2, 100, 10)), 0, Result{Price: 100, Qty: 10}},
		{"a price between that nobody says is none", list(limit(1, 105, 10)), list(limit(2, 95, 10)), 1, Result{Price: 95, Qty: 10}},
		{"a sell above all is one", list(market(1, 20)), list(market(2, 20), limit(3, 120, 5)), 0, Result{120, 20, 5, api.Sell}},
	})
}

func TestU2MostTradedLeastOver(t *testing.T) {
	checkPrices(t, []priceCase{
		{"most traded, though more is over", list(limit(1, 100, 100), limit(2, 101, 10)), list(limit(3, 101, 10), limit(4, 100, 11)), 101, Result{100, 11, 99, api.Buy}},
		{"least over", list(limit(1, 105, 10), limit(2, 102, 5)), list(limit(3, 100, 10)), 100, Result{Price: 105, Qty: 10}},
		{"least over, of sells", list(limit(3, 105, 10)), list(limit(1, 100, 10), limit(2, 103, 5)), 105, Result{Price: 100, Qty: 10}},
		{"least over is not nothing", list(limit(1, 105, 12), limit(2, 102, 5)), list(limit(3, 100, 10)), 100, Result{105, 10, 2, api.Buy}},
		{"the reference trades less", list(limit(1, 105, 10), limit(2, 103, 10)), list(limit(3, 103, 20)), 104, Result{Price: 103, Qty: 20}},
	})
}

func TestU3Choice(t *testing.T) {
	more := list(limit(1, 105, 20))
	some := list(limit(2, 100, 10))
	both, and := list(limit(1, 101, 10), limit(2, 100, 10)), list(limit(3, 100, 10), limit(4, 101, 10))
	wide, deep := list(limit(1, 104, 10)), list(limit(3, 96, 10))
	checkPrices(t, []priceCase{
		{"more is bought: the greatest", more, some, 101, Result{105, 10, 10, api.Buy}},
		{"more is bought: the greatest, by a reference", list(market(1, 20)), some, 300, Result{300, 10, 10, api.Buy}},
		{"more is sold: the least", list(limit(1, 105, 10)), list(limit(2, 100, 20)), 104, Result{100, 10, 10, api.Sell}},
		{"more is sold: the least, by a reference", list(limit(1, 105, 10)), list(market(2, 20)), 7, Result{7, 10, 10, api.Sell}},
		{"more is bought here and sold there: the nearest", both, and, 99, Result{100, 10, 10, api.Buy}},
		{"more is bought here and sold there: the nearest, above", both, and, 200, Result{101, 10, 10, api.Sell}},
		{"more is bought here and sold there: no reference", both, and, 0, Result{100, 10, 10, api.Buy}},
		{"more is bought here and still more sold there", both, append(list(limit(5, 101, 1)), and...), 101, Result{100, 10, 10, api.Buy}},
		{"nothing is over: the reference", list(limit(1, 103, 10), limit(2, 97, 10)), list(limit(3, 97, 10), limit(4, 103, 10)), 100, Result{Price: 100, Qty: 10}},
		{"nothing is over: the nearest below", wide, deep, 95, Result{Price: 96, Qty: 10}},
		{"nothing is over: the nearest above", wide, deep, 105, Result{Price: 104, Qty: 10}},
		{"nothing is over at some, below the reference", list(limit(1, 104, 10), limit(2, 99, 3)), list(limit(3, 96, 10), limit(4, 98, 3)), 104, Result{99, 13, 0, 0}},
		{"below 1 counts as 0", wide, deep, -1, Result{Price: 96, Qty: 10}},
		{"far below 1 counts as 0", wide, deep, math.MinInt64, Result{Price: 96, Qty: 10}},
		{"above all counts as 0", wide, deep, api.MaxPrice + 1, Result{Price: 96, Qty: 10}},
		{"far above all counts as 0", wide, deep, math.MaxInt64, Result{Price: 96, Qty: 10}},
		{"the greatest does not", wide, deep, api.MaxPrice, Result{Price: 104, Qty: 10}},
		{"the least does not", wide, deep, 1, Result{Price: 96, Qty: 10}},
	})
}

// A reference between two that are best is as good as they are, so that no lists come to two that are as near: the rule is asked of itself.
func TestU3AsNear(t *testing.T) {
	list := []point{{price: 97}, {price: 98}, {price: 102}, {price: 103}}
	for reference, want := range map[int64]int64{0: 97, 97: 97, 98: 98, 99: 98, 100: 102, 101: 102, 103: 103, api.MaxPrice: 103} {
		if got := nearest(list, reference); got.price != want {
			t.Errorf("%d is the nearest to %d, want %d", got.price, reference, want)
		}
	}
}

func TestU4Result(t *testing.T) {
	checkPrices(t, []priceCase{
		{"more is bought", list(limit(1, 100, 7)), list(limit(2, 100, 4)), 0, Result{Price: 100, Qty: 4, Over: 3, Side: api.Buy}},
		{"more is sold", list(limit(1, 100, 4)), list(limit(2, 100, 7)), 0, Result{Price: 100, Qty: 4, Over: 3, Side: api.Sell}},
		{"as much", list(limit(1, 100, 4)), list(limit(2, 100, 4)), 0, Result{Price: 100, Qty: 4}},
		{"the least quantity", list(limit(1, 100, 1)), list(limit(2, 100, 1)), 0, Result{Price: 100, Qty: 1}},
		{"the greatest quantity", list(limit(1, 100, api.MaxQty)), list(limit(2, 1, api.MaxQty)), 0, Result{Price: 1, Qty: api.MaxQty}},
		{"the greatest price", list(limit(1, api.MaxPrice, 2)), list(limit(2, 1, 1)), 0, Result{api.MaxPrice, 1, 1, api.Buy}},
		{"sums of many", slices.Repeat(list(limit(1, 100, api.MaxQty)), 5000), slices.Repeat(list(market(2, api.MaxQty)), 4000), 0, Result{100, 4000 * api.MaxQty, 1000 * api.MaxQty, api.Buy}},
	})
}

func TestU5Order(t *testing.T) {
	buys := list(limit(5, 100, 10), market(9, 10), limit(4, 100, 10), limit(3, 99, 10), market(8, 5), limit(11, 103, 2))
	sells := list(limit(7, 101, 10), limit(6, 95, 10), market(20, 3), limit(2, 95, 10), limit(1, 96, 4))
	all := []api.Fill{
		{Buy: 8, Sell: 20, Price: 100, Qty: 3}, {Buy: 8, Sell: 2, Price: 100, Qty: 2}, {Buy: 9, Sell: 2, Price: 100, Qty: 8},
		{Buy: 9, Sell: 6, Price: 100, Qty: 2}, {Buy: 11, Sell: 6, Price: 100, Qty: 2}, {Buy: 4, Sell: 6, Price: 100, Qty: 6},
		{Buy: 4, Sell: 1, Price: 100, Qty: 4},
	}
	checkFills(t, "all of it", Fills(buys, sells, Result{Price: 100, Qty: 27}), all)
	checkFills(t, "a row is at its end", Fills(buys, sells, Result{Price: 100, Qty: 28}), all)
	checkFills(t, "far more than there is", Fills(buys, sells, Result{Price: 100, Qty: math.MaxInt64}), all)
	checkFills(t, "up to a whole fill", Fills(buys, sells, Result{Price: 100, Qty: 13}), all[:3])
	part := slices.Clone(all[:4])
	part[3].Qty = 1
	checkFills(t, "a part of a fill", Fills(buys, sells, Result{Price: 100, Qty: 14}), part)
	checkFills(t, "one", Fills(buys, sells, Result{Price: 100, Qty: 1, Over: 7, Side: 9}), []api.Fill{{Buy: 8, Sell: 20, Price: 100, Qty: 1}})
}

func TestU5MarketsPriceIsNotLookedAt(t *testing.T) {
	buys := list(market(3, 1), market(2, 1), market(1, 1))
	buys[0].Price, buys[1].Price, buys[2].Price = 500, math.MinInt64, 7
	sells := list(market(6, 1), market(5, 1), market(4, 1))
	sells[0].Price, sells[1].Price, sells[2].Price = 1, math.MaxInt64, 200
	checkFills(t, "by IDs", Fills(buys, sells, Result{Price: 100, Qty: 3}), []api.Fill{
		{Buy: 1, Sell: 4, Price: 100, Qty: 1}, {Buy: 2, Sell: 5, Price: 100, Qty: 1}, {Buy: 3, Sell: 6, Price: 100, Qty: 1},
	})
	limited := list(limit(1, api.MaxPrice, 1), market(2, 1))
	limited[1].Price = 1
	least := list(limit(1, 1, 1), market(2, 1))
	least[1].Price = api.MaxPrice
	checkFills(t, "Market ahead of all prices", Fills(limited, least, Result{Price: 100, Qty: 2}), []api.Fill{
		{Buy: 2, Sell: 2, Price: 100, Qty: 1}, {Buy: 1, Sell: 1, Price: 100, Qty: 1},
	})
}

func TestU5OneID(t *testing.T) {
	// Prices go ahead of the order of the list; IDs that are wild are ordered as numbers.
	buys := list(limit(4, 100, 1), limit(4, 100, 2), limit(4, 101, 3), limit(4, 100, 4), market(4, 5), market(4, 6))
	var want []api.Fill
	for _, q := range []int64{5, 6, 3, 1, 2, 4} {
		want = append(want, api.Fill{Buy: 4, Sell: 7, Price: 100, Qty: q})
	}
	checkFills(t, "buys of one ID", Fills(buys, list(market(7, 100)), Result{Price: 100, Qty: 100}), want)
	for i := range want {
		want[i].Buy, want[i].Sell = 7, 4
	}
	buys[2].Price = 99
	checkFills(t, "sells of one ID", Fills(list(market(7, 100)), buys, Result{Price: 100, Qty: 100}), want)
	wild := list(limit(math.MaxInt, 100, 1), limit(0, 100, 1), limit(math.MinInt, 100, 1), limit(-1, 100, 1))
	got := Fills(wild, list(market(7, 100)), Result{Price: 100, Qty: 100})
	var ids []int
	for _, f := range got {
		ids = append(ids, f.Buy)
	}
	if !slices.Equal(ids, []int{math.MinInt, -1, 0, math.MaxInt}) {
		t.Errorf("wild IDs: %v", ids)
	}
}

// Many that are alike, so that a sort that moves them shows.
func TestU5ManyOfOneID(t *testing.T) {
	var buys []api.Order
	var want []api.Fill
	for q := range int64(1000) {
		buys = append(buys, limit(3, 100, q+1))
		want = append(want, api.Fill{Buy: 3, Sell: 8, Price: 90, Qty: q + 1})
	}
	checkFills(t, "buys", Fills(buys, list(market(8, api.MaxQty)), Result{Price: 90, Qty: api.MaxQty}), want)
}

func TestU5Nothing(t *testing.T) {
	b, s := list(limit(1, 100, 10), market(3, 1)), list(limit(2, 100, 10), market(4, 1))
	for _, r := range []Result{
		{}, {Price: 100}, {Price: 100, Qty: -1}, {Price: 100, Qty: math.MinInt64}, {Price: 0, Qty: 5}, {Price: -1, Qty: 5},
		{Price: api.MaxPrice + 1, Qty: 5}, {Price: math.MaxInt64, Qty: 5}, {Price: math.MinInt64, Qty: 5}, {Over: 5, Side: api.Buy},
	} {
		if got := Fills(b, s, r); len(got) != 0 {
			t.Errorf("%+v: %+v", r, got)
		}
	}
	for _, r := range []Result{{Price: 1, Qty: 1}, {Price: api.MaxPrice, Qty: 1}, {Price: 100, Qty: 1}} {
		checkFills(t, "the least and the greatest", Fills(b, s, r), []api.Fill{{Buy: 3, Sell: 4, Price: r.Price, Qty: 1}})
	}
	good := Result{Price: 100, Qty: 5}
	if len(Fills(nil, s, good)) != 0 || len(Fills(b, nil, good)) != 0 || len(Fills(nil, nil, good)) != 0 {
		t.Error("a side that is empty trades")
	}
	if got := Fills(list(limit(1, 99, 5)), s, good); len(got) != 0 {
		t.Errorf("a buy below the price: %+v", got)
	}
	if got := Fills(b, list(limit(2, 101, 5)), good); len(got) != 0 {
		t.Errorf("a sell above the price: %+v", got)
	}
}

func TestU6Curve(t *testing.T) {
	buys := list(limit(1, 102, 100), market(5, 7), limit(2, 101, 50), limit(9, 101, 0))
	sells := list(limit(3, 100, 80), limit(4, 101, 60), market(6, 3), limit(8, -1, 5))
	for _, c := range []struct{ price, bought, sold int64 }{
		{math.MinInt64, 157, 3}, {-1, 157, 3}, {0, 157, 3}, {1, 157, 3}, {99, 157, 3}, {100, 157, 83}, {101, 157, 143},
		{102, 107, 143}, {103, 7, 143}, {api.MaxPrice, 7, 143}, {api.MaxPrice + 1, 7, 143}, {math.MaxInt64, 7, 143},
	} {
		if b, s := Curve(buys, sells, c.price); b != c.bought || s != c.sold {
			t.Errorf("at %d: %d and %d", c.price, b, s)
		}
	}
	if b, s := Curve(nil, nil, 100); b != 0 || s != 0 {
		t.Errorf("nobody: %d and %d", b, s)
	}
}

// What stands behind a list that is handed in stays, too; an answer is the caller's.
func TestP3Memory(t *testing.T) {
	room := list(limit(2, 101, 50), limit(1, 102, 100), market(8, 5), limit(7, 9, 9))
	over := list(limit(4, 101, 60), limit(3, 100, 80), limit(6, 9, 9))
	b, s := slices.Clone(room), slices.Clone(over)
	first := Fills(room[:3], over[:2], Price(room[:3], over[:2], 100))
	Curve(room[:3], over[:2], 100)
	if !slices.Equal(room, b) || !slices.Equal(over, s) {
		t.Errorf("what was handed in has changed: %+v, %+v", room, over)
	}
	kept := slices.Clone(first)
	second := Fills(room[:3], over[:2], Price(room[:3], over[:2], 100))
	for i := range second {
		second[i] = api.Fill{}
	}
	clear(second[:cap(second)])
	room[0], over[0] = api.Order{}, api.Order{}
	if len(first) == 0 || !slices.Equal(first, kept) {
		t.Errorf("answers share memory: %+v", first)
	}
}

func TestP4Together(t *testing.T) {
	buys := list(limit(1, 102, 100), limit(2, 101, 50))
	sells := list(limit(3, 100, 80), limit(4, 101, 60))
	want := Fills(buys, sells, Price(buys, sells, 0))
	var wg sync.WaitGroup
	for range 8 {
		wg.Go(func() {
			for range 100 {
				if got := Fills(buys, sells, Price(buys, sells, 0)); !slices.Equal(got, want) {
					t.Errorf("%+v", got)
				}
			}
		})
	}
	wg.Wait()
}
