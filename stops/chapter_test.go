package stops

import (
	"fmt"
	"math"
	"math/rand"
	"slices"
	"testing"

	"outcry/api"
)

// A second reading of the chapter, by other means, against which the package is held: all stops stand in one list, in the order in which they wait; each call goes through it from the front.

type reading struct{ list []api.Order }

func readIsStop(o api.Order) bool {
	right := func(n, most int64) bool { return 0 < n && n < most+1 }
	price := o.Price == 0
	if o.Type == 4 {
		price = right(o.Price, 1000000000)
	}
	return (o.Type == 3 || o.Type == 4) && (o.Side == 1 || o.Side == 2) && o.ID > 0 && right(o.Stop, 1000000000) && right(o.Qty, 1000000) && price
}

func (r *reading) at(id int) int {
	return slices.IndexFunc(r.list, func(o api.Order) bool { return o.ID == id })
}

func (r *reading) add(o api.Order) api.Errno {
	switch {
	case !readIsStop(o):
		return api.ErrType
	case r.at(o.ID) >= 0:
		return api.ErrKnown
	case len(r.list) == 200:
		return api.ErrMany
	}
	r.list = append(r.list, o)
	return api.OK
}

func (r *reading) order(id int) (api.Order, api.Errno) {
	if i := r.at(id); i >= 0 {
		return r.list[i], api.OK
	}
	return api.Order{}, api.ErrNone
}

func (r *reading) cancel(id int) (api.Order, api.Errno) {
	o, e := r.order(id)
	if e == api.OK {
		i := r.at(id)
		r.list = slices.Concat(r.list[:i], r.list[i+1:])
	}
	return o, e
}

func (r *reading) replace(id int, stop, price, qty int64) api.Errno {
	was, e := r.order(id)
	if e != api.OK {
		return e
	}
	is := was
	is.Stop, is.Price, is.Qty = stop, price, qty
	if !readIsStop(is) {
		return api.ErrType
	}
	less := was
	less.Qty = qty
	if is == less && qty <= was.Qty {
		r.list[r.at(id)] = is
		return api.OK
	}
	r.cancel(id)
	return r.add(is)
}

func readAlive(o api.Order, price int64) bool {
	return o.Stop == price || (o.Stop < price) == (o.Side == api.Buy)
}

func (r *reading) trade(price int64) []api.Order {
	var woken, rest []api.Order
	for _, o := range r.list {
		if !readAlive(o, price) {
			rest = append(rest, o)
			continue
		}
		o.Type = map[int]int{api.Stop: api.Market, api.StopLimit: api.Limit}[o.Type]
		woken = append(woken, o)
	}
	r.list = rest
	return woken
}

// pair: the package's stops and the reading's, which are told the same.
type pair struct {
	s     *Stops
	r     *reading
	calls [][]any // what was called, for whoever has to look into a fault
}

func newPair() *pair { return &pair{s: New(), r: &reading{}} }

func (p *pair) held(t *testing.T, same bool, call ...any) {
	t.Helper()
	p.calls = append(p.calls, call)
	if !same || !slices.Equal(p.s.Orders(), p.r.list) {
		t.Fatalf("%v: the package has %+v, the reading %+v", p.calls, p.s.Orders(), p.r.list)
	}
}

func (p *pair) add(t *testing.T, o api.Order) {
	t.Helper()
	p.held(t, p.s.Add(o) == p.r.add(o), "Add", o)
}

func (p *pair) cancel(t *testing.T, id int) {
	t.Helper()
	a, e := p.s.Cancel(id)
	b, f := p.r.cancel(id)
	p.held(t, a == b && e == f, "Cancel", id)
}

func (p *pair) order(t *testing.T, id int) {
	t.Helper()
	a, e := p.s.Order(id)
	b, f := p.r.order(id)
	p.held(t, a == b && e == f, "Order", id)
}

func (p *pair) replace(t *testing.T, id int, stop, price, qty int64) {
	t.Helper()
	p.held(t, p.s.Replace(id, stop, price, qty) == p.r.replace(id, stop, price, qty), "Replace", id, stop, price, qty)
}

func (p *pair) trade(t *testing.T, price int64) []api.Order {
	t.Helper()
	got := p.s.Trade(price)
	p.held(t, slices.Equal(got, p.r.trade(price)), "Trade", price)
	for _, o := range p.r.list {
		if readAlive(o, price) {
			t.Fatalf("%v: %+v waits still", p.calls, o)
		}
	}
	return got
}

// TestEveryShortWalk goes through all rows of a few calls on a few orders.
func TestEveryShortWalk(t *testing.T) {
	type step func(p *pair)
	var steps []step
	for id := 1; id <= 2; id++ {
		for _, side := range []int{api.Buy, api.Sell} {
			steps = append(steps, func(p *pair) { p.add(t, market(id, side, 2)) }, func(p *pair) { p.add(t, limit(id, side, 3, 2)) })
		}
		steps = append(steps, func(p *pair) { p.cancel(t, id) })
		for _, c := range [][3]int64{{2, 0, 9}, {2, 0, 11}, {3, 0, 10}, {3, 2, 10}, {2, 3, 10}} {
			steps = append(steps, func(p *pair) { p.replace(t, id, c[0], c[1], c[2]) })
		}
	}
	for price := int64(1); price <= 4; price++ {
		steps = append(steps, func(p *pair) { p.trade(t, price) })
	}
	for _, a := range steps {
		for _, b := range steps {
			for _, c := range steps {
				for _, d := range steps {
					p := newPair()
					for _, do := range []step{a, b, c, d} {
						do(p)
					}
					p.trade(t, 2)
				}
			}
		}
	}
}

// wildNumbers are at the edges of what may be, and beyond.
var wildNumbers = []int64{math.MinInt64, -api.MaxPrice, -1, 0, 1, 2, api.MaxQty - 1, api.MaxQty, api.MaxQty + 1, api.MaxPrice - 1, api.MaxPrice, api.MaxPrice + 1, math.MaxInt64}

func some(r *rand.Rand, most int64) int64 {
	if r.Intn(25) == 0 {
		return wildNumbers[r.Intn(len(wildNumbers))]
	}
	return 1 + r.Int63n(most)
}

func someStop(r *rand.Rand, id int, prices int64) api.Order {
	o := api.Order{ID: id, Side: 1 + r.Intn(2), Type: api.Stop, Stop: some(r, prices), Qty: some(r, 5), Name: fmt.Sprint(r.Intn(9)), Show: some(r, 9)}
	if r.Intn(2) == 0 {
		o.Type, o.Price = api.StopLimit, some(r, prices)
	}
	if r.Intn(30) == 0 {
		o.Type = r.Intn(8) - 1
	}
	if r.Intn(30) == 0 {
		o.Side = r.Intn(6) - 1
	}
	return o
}

// someReplace changes nothing, or the Qty alone, or whatever it may.
func someReplace(t *testing.T, r *rand.Rand, p *pair, id int, prices int64) {
	t.Helper()
	o, _ := p.r.order(id)
	switch r.Intn(4) {
	case 0:
		o.Stop = some(r, prices)
	case 1:
		o.Price = some(r, prices)
	case 2:
		o.Stop, o.Qty = some(r, prices), some(r, 5)
	}
	if r.Intn(2) == 0 {
		o.Qty += int64(r.Intn(3) - 1)
	}
	p.replace(t, id, o.Stop, o.Price, o.Qty)
}

func walk(t *testing.T, r *rand.Rand, steps, most int, prices int64) {
	t.Helper()
	p := newPair()
	told := map[int]int{} // by ID: how often an order was told by Trade or Cancel
	added := map[int]int{}
	for range steps {
		id := r.Intn(most+2) - 1
		switch r.Intn(12) {
		case 0, 1, 2, 3, 4:
			n := len(p.r.list)
			p.add(t, someStop(r, id, prices))
			added[id] += len(p.r.list) - n
		case 5:
			n := len(p.r.list)
			p.cancel(t, id)
			told[id] += n - len(p.r.list)
		case 6:
			p.order(t, id)
		case 7, 8, 9:
			someReplace(t, r, p, id, prices)
		default:
			// near the middle nobody comes alive, so that many come to wait
			price := prices/3 + r.Int63n(prices/3+1)
			if r.Intn(12) == 0 {
				price = some(r, prices)
			}
			for _, o := range p.trade(t, price) {
				told[o.ID]++
			}
		}
	}
	for _, o := range p.s.Orders() {
		told[o.ID]++
	}
	for id, n := range added {
		if told[id] != n {
			t.Fatalf("%v: %d was added %d times, and told or waits %d times", p.calls, id, n, told[id])
		}
	}
}

func TestRandomWalks(t *testing.T) {
	r := rand.New(rand.NewSource(14))
	for range 1500 {
		walk(t, r, 120, 1+r.Intn(12), 1+r.Int63n(12))
	}
	for range 30 {
		walk(t, r, 1500, 250, 3000)
	}
	for range 20 {
		walk(t, r, 800, 100, api.MaxPrice)
	}
}

// TestFullWalks has as many that wait as may be, most of the time.
func TestFullWalks(t *testing.T) {
	r := rand.New(rand.NewSource(41))
	for range 20 {
		p := newPair()
		for id := range 400 {
			o := someStop(r, id, 10)
			o.Stop = 1 + r.Int63n(10)
			if o.Side == api.Buy {
				o.Stop += 20
			}
			p.add(t, o)
			if r.Intn(8) == 0 {
				p.cancel(t, r.Intn(400))
			}
			if r.Intn(8) == 0 {
				someReplace(t, r, p, r.Intn(400), 10)
			}
		}
		p.trade(t, 15)
		for price := int64(14); price >= 0; price-- {
			p.trade(t, price)
			p.trade(t, 31-price)
		}
		if n := len(p.s.Orders()); n > 20 {
			t.Fatalf("%d wait still", n)
		}
	}
}
