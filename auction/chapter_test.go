package auction

import (
	"fmt"
	"math"
	"math/rand"
	"slices"
	"testing"

	"outcry/api"
)

// A second reading of the chapter, by other means, against which the package is held: every candidate is looked at by going through all orders; the choice is made by throwing out who is worse than another one; and trades are made one piece at a time, each with who is ahead among all that are left.

func readCounts(o api.Order) bool {
	right := o.Type == api.Market || 0 < o.Price && o.Price < api.MaxPrice+1
	return right && 0 < o.Qty && o.Qty < api.MaxQty+1
}

func readAt(o api.Order, buys bool, p int64) bool {
	if !readCounts(o) {
		return false
	}
	if o.Type == api.Market || o.Price == p {
		return true
	}
	return (o.Price > p) == buys
}

func readSum(orders []api.Order, buys bool, p int64) int64 {
	sum := int64(0)
	for _, o := range orders {
		if readAt(o, buys, p) {
			sum += o.Qty
		}
	}
	return sum
}

type readPoint struct{ price, bought, sold, traded, over int64 }

// readPoints gives the candidates at which something is traded, in no order, some of them more than once.
func readPoints(buys, sells []api.Order, reference int64) []readPoint {
	var prices []int64
	if 0 < reference && reference <= api.MaxPrice {
		prices = append(prices, reference)
	}
	for _, o := range slices.Concat(sells, buys) {
		if readCounts(o) && o.Type != api.Market {
			prices = append(prices, o.Price)
		}
	}
	var list []readPoint
	for _, p := range prices {
		x := readPoint{price: p, bought: readSum(buys, true, p), sold: readSum(sells, false, p)}
		x.traded, x.over = x.bought, x.sold-x.bought
		if x.sold < x.bought {
			x.traded, x.over = x.sold, x.bought-x.sold
		}
		if x.traded != 0 {
			list = append(list, x)
		}
	}
	return list
}

// keep throws out those than which another one is better.
func keep(list []readPoint, better func(a, b readPoint) bool) []readPoint {
	var kept []readPoint
	for _, x := range list {
		if !slices.ContainsFunc(list, func(y readPoint) bool { return better(y, x) }) {
			kept = append(kept, x)
		}
	}
	return kept
}

func readPrice(buys, sells []api.Order, reference int64) Result {
	list := readPoints(buys, sells, reference)
	if len(list) == 0 {
		return Result{}
	}
	list = keep(list, func(a, b readPoint) bool { return a.traded > b.traded })
	list = keep(list, func(a, b readPoint) bool { return a.over < b.over })
	up, down := 0, 0
	for _, x := range list {
		if x.bought > x.sold {
			up++
		}
		if x.bought < x.sold {
			down++
		}
	}
	if reference < 1 || reference > api.MaxPrice {
		reference = 0
	}
	off := func(x readPoint) float64 { return math.Abs(float64(x.price) - float64(reference)) }
	switch len(list) {
	case up:
	case down:
		list = keep(list, func(a, b readPoint) bool { return a.price < b.price })
	default:
		list = keep(list, func(a, b readPoint) bool { return off(a) < off(b) })
	}
	x := keep(list, func(a, b readPoint) bool { return a.price > b.price })[0]
	r := Result{Price: x.price, Qty: x.traded, Over: x.over}
	if x.over != 0 {
		r.Side = api.Sell
		if x.bought > x.sold {
			r.Side = api.Buy
		}
	}
	return r
}

// readAhead tells whether a goes ahead of b for its kind, price or ID.
func readAhead(a, b api.Order, buys bool) bool {
	if (a.Type == api.Market) != (b.Type == api.Market) {
		return a.Type == api.Market
	}
	if a.Type != api.Market && a.Price != b.Price {
		return (a.Price > b.Price) == buys
	}
	return a.ID < b.ID
}

// readFirst gives where the first of those stands who have something left; -1, if nobody has.
func readFirst(orders []api.Order, left []int64, buys bool, p int64) int {
	first := -1
	for i, o := range orders {
		if readAt(o, buys, p) && left[i] > 0 && (first < 0 || readAhead(o, orders[first], buys)) {
			first = i
		}
	}
	return first
}

func readLeft(orders []api.Order) []int64 {
	left := make([]int64, len(orders))
	for i, o := range orders {
		left[i] = o.Qty
	}
	return left
}

func readFills(buys, sells []api.Order, r Result) []api.Fill {
	var fills []api.Fill
	if r.Price < 1 || r.Price > api.MaxPrice {
		return fills
	}
	b, s := readLeft(buys), readLeft(sells)
	one, other := -1, -1
	for n := int64(0); n < r.Qty; n++ {
		i, j := readFirst(buys, b, true, r.Price), readFirst(sells, s, false, r.Price)
		if i < 0 || j < 0 {
			break
		}
		if i != one || j != other {
			fills = append(fills, api.Fill{Buy: buys[i].ID, Sell: sells[j].ID, Price: r.Price})
		}
		fills[len(fills)-1].Qty++
		b[i]--
		s[j]--
		one, other = i, j
	}
	return fills
}

func hold(t *testing.T, buys, sells []api.Order, reference int64) Result {
	t.Helper()
	got, want := Price(buys, sells, reference), readPrice(buys, sells, reference)
	if got != want {
		t.Fatalf("%s, %s, %d: %+v, want %+v", show(buys), show(sells), reference, got, want)
	}
	return got
}

func holdFills(t *testing.T, buys, sells []api.Order, r Result) []api.Fill {
	t.Helper()
	got, want := Fills(buys, sells, r), readFills(buys, sells, r)
	if !slices.Equal(got, want) {
		t.Fatalf("%s, %s, %+v: %+v, want %+v", show(buys), show(sells), r, got, want)
	}
	return got
}

func holdCurve(t *testing.T, buys, sells []api.Order, price int64) {
	t.Helper()
	b, s := Curve(buys, sells, price)
	if b != readSum(buys, true, price) || s != readSum(sells, false, price) {
		t.Fatalf("%s, %s at %d: %d and %d", show(buys), show(sells), price, b, s)
	}
}

func show(orders []api.Order) string {
	s := ""
	for _, o := range orders {
		s += fmt.Sprintf("[%d: type %d, %d at %d]", o.ID, o.Type, o.Qty, o.Price)
	}
	return s
}

// TestEverySmallAuction goes through all lists of up to two orders a side, of few prices and quantities.
func TestEverySmallAuction(t *testing.T) {
	var kinds [][]api.Order
	kinds = append(kinds, nil)
	for qty := int64(1); qty <= 2; qty++ {
		kinds = append(kinds, list(market(0, qty)))
		for price := int64(2); price <= 4; price++ {
			kinds = append(kinds, list(limit(0, price, qty)))
		}
	}
	var sides [][]api.Order
	for _, a := range kinds {
		for _, b := range kinds {
			side := slices.Concat(a, b)
			for i := range side {
				side[i].ID = len(side) - i
			}
			sides = append(sides, side)
		}
	}
	for _, b := range sides {
		for _, s := range sides {
			for reference := int64(0); reference <= 5; reference++ {
				r := hold(t, b, s, reference)
				holdFills(t, b, s, r)
				holdCurve(t, b, s, reference)
			}
		}
	}
}

// wildNumbers are at the edges of what counts, and beyond.
var wildNumbers = []int64{math.MinInt64, -api.MaxPrice, -1, 0, 1, 2, api.MaxQty - 1, api.MaxQty, api.MaxQty + 1, api.MaxPrice - 1, api.MaxPrice, api.MaxPrice + 1, math.MaxInt64}

func someOrder(r *rand.Rand, id int, prices, most int64) api.Order {
	o := limit(id, 1+r.Int63n(prices), 1+r.Int63n(most))
	if r.Intn(6) == 0 {
		o.Type = api.Market
	}
	if r.Intn(8) == 0 {
		o.Type = r.Intn(7) - 1
	}
	if r.Intn(20) == 0 {
		o.Price = wildNumbers[r.Intn(len(wildNumbers))]
	}
	if r.Intn(20) == 0 {
		o.Qty = []int64{math.MinInt64, -1, 0, api.MaxQty + 1, math.MaxInt64}[r.Intn(5)]
	}
	return o
}

// someSide gives a list whose IDs are in no order; with twins some are there twice.
func someSide(r *rand.Rand, prices, most int64, twins bool) []api.Order {
	var orders []api.Order
	n := r.Intn(12)
	for _, id := range r.Perm(n) {
		if twins {
			id /= 3
		}
		orders = append(orders, someOrder(r, id-2, prices, most))
	}
	return orders
}

func TestRandomAuctions(t *testing.T) {
	r := rand.New(rand.NewSource(13))
	for n := range 40000 {
		prices := 1 + r.Int63n(12)
		twins := n%2 == 0
		b, s := someSide(r, prices, 6, twins), someSide(r, prices, 6, twins)
		reference := r.Int63n(prices+3) - 1
		if r.Intn(10) == 0 {
			reference = wildNumbers[r.Intn(len(wildNumbers))]
		}
		got := hold(t, b, s, reference)
		fills := holdFills(t, b, s, got)
		holdFills(t, b, s, Result{Price: r.Int63n(prices+2) - 1, Qty: r.Int63n(40) - 2})
		holdCurve(t, b, s, r.Int63n(prices+2))
		holdCurve(t, b, s, wildNumbers[r.Intn(len(wildNumbers))])
		follows(t, b, s, prices, got)
		if !twins {
			fair(t, b, true, got, fills)
			fair(t, s, false, got, fills)
			anyOrder(t, r, b, s, reference, got, fills)
		}
	}
}

// follows: at no price, candidate or not, more is traded, if there is a candidate at all.
func follows(t *testing.T, b, s []api.Order, prices int64, got Result) {
	t.Helper()
	if got.Qty == 0 {
		return
	}
	if x, y := Curve(b, s, got.Price); min(x, y) != got.Qty || max(x, y)-min(x, y) != got.Over {
		t.Fatalf("%s, %s: %+v, at its price %d and %d", show(b), show(s), got, x, y)
	}
	for p := range prices + 3 {
		if x, y := Curve(b, s, p); min(x, y) > got.Qty {
			t.Fatalf("%s, %s: %+v, but at %d more is traded", show(b), show(s), got, p)
		}
	}
}

// fair: the fills come to the Qty; nobody trades more than they have or at a price that they would not; who does not trade whole has nobody behind who trades. (No two orders have one ID.)
func fair(t *testing.T, orders []api.Order, buys bool, got Result, fills []api.Fill) {
	t.Helper()
	done := map[int]int64{}
	sum := int64(0)
	for _, f := range fills {
		id := f.Sell
		if buys {
			id = f.Buy
		}
		done[id] += f.Qty
		sum += f.Qty
		if f.Price != got.Price || f.Taker != 0 || f.Qty < 1 {
			t.Fatalf("a fill %+v of %+v", f, got)
		}
	}
	if sum != got.Qty {
		t.Fatalf("%s: fills of %d, want %d", show(orders), sum, got.Qty)
	}
	have := map[int]int64{}
	for _, o := range orders {
		if readAt(o, buys, got.Price) {
			have[o.ID] = o.Qty
		}
	}
	for id, q := range done {
		if q > have[id] {
			t.Fatalf("%s: %d trades %d of %d", show(orders), id, q, have[id])
		}
	}
	for _, a := range orders {
		for _, b := range orders {
			if have[a.ID] > done[a.ID] && done[b.ID] > 0 && readAhead(a, b, buys) {
				t.Fatalf("%s: %d trades ahead of %d", show(orders), b.ID, a.ID)
			}
		}
	}
}

// anyOrder: the order of the lists changes neither price nor fills.
func anyOrder(t *testing.T, r *rand.Rand, b, s []api.Order, reference int64, got Result, fills []api.Fill) {
	t.Helper()
	b, s = slices.Clone(b), slices.Clone(s)
	r.Shuffle(len(b), func(i, j int) { b[i], b[j] = b[j], b[i] })
	r.Shuffle(len(s), func(i, j int) { s[i], s[j] = s[j], s[i] })
	if Price(b, s, reference) != got || !slices.Equal(Fills(b, s, got), fills) {
		t.Fatalf("%s, %s, %d: the order of the lists changes what comes of it", show(b), show(s), reference)
	}
}

// TestGreatAuctions holds the price alone, over all prices and quantities that may be.
func TestGreatAuctions(t *testing.T) {
	r := rand.New(rand.NewSource(31))
	for range 3000 {
		b, s := someSide(r, api.MaxPrice, api.MaxQty, false), someSide(r, api.MaxPrice, api.MaxQty, false)
		got := hold(t, b, s, 1+r.Int63n(api.MaxPrice))
		fair(t, b, true, got, Fills(b, s, got))
		fair(t, s, false, got, Fills(b, s, got))
	}
}

// TestLongLists: what must be done grows hardly faster than the lists.
func TestLongLists(t *testing.T) {
	var b, s []api.Order
	sum := int64(0)
	for i := range 100000 {
		q := int64(1 + i%7)
		b = append(b, limit(i, api.MaxPrice-int64(i*31%50000), q))
		s = append(s, limit(i, 1+int64(i*17%50000), q))
		sum += q
	}
	got := Price(b, s, 0)
	if got != (Result{Price: 50000, Qty: sum}) {
		t.Fatalf("%+v", got)
	}
	traded := int64(0)
	for _, f := range Fills(b, s, got) {
		traded += f.Qty
	}
	if traded != sum {
		t.Errorf("fills of %d, want %d", traded, sum)
	}
}
