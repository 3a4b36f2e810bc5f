package book

import (
	"fmt"
	"math"
	"reflect"
	"slices"
	"strconv"
	"sync"
	"testing"

	"outcry/api"
)

// sale and bid are orders that may come, each with a name and an owner of its own.
func sale(id int, price, qty int64, account string) api.Order {
	return api.Order{
		ID: id, Name: "n" + strconv.Itoa(id), Account: account, Symbol: "ABC", Side: api.Sell, Type: api.Limit, Life: api.Day,
		Price: price, Stop: 7, Qty: qty, Until: 20240229, Owner: 100 + id,
	}
}

func bid(id int, price, qty int64, account string) api.Order {
	o := sale(id, price, qty, account)
	o.Side = api.Buy
	return o
}

// but is an order with something changed.
func but(o api.Order, change func(o *api.Order)) api.Order {
	change(&o)
	return o
}

func living(o api.Order, life int) api.Order { o.Life = life; return o }

func showing(o api.Order, show int64) api.Order { o.Show = show; return o }

func market(o api.Order) api.Order { o.Type, o.Price = api.Market, 0; return o }

// gave is an order behind trades of so much.
func gave(o api.Order, qty int64) api.Order { o.Qty -= qty; o.Done += qty; return o }

func of(kind int, o api.Order) []api.Event {
	return []api.Event{{Kind: kind, Symbol: "ABC", Owner: o.Owner, Name: o.Name, O: o, Side: o.Side}}
}

func refusal(o api.Order, e api.Errno) []api.Event {
	l := of(api.EvRejected, o)
	l[0].Err = e
	return l
}

// trade is what is told of a trade, of two orders as they are behind it.
func trade(buy, sell api.Order, taker int, price, qty int64) []api.Event {
	l := slices.Concat(of(api.EvTrade, buy), of(api.EvTrade, sell))
	for i := range l {
		l[i].F = api.Fill{Buy: buy.ID, Sell: sell.ID, Taker: taker, Price: price, Qty: qty}
	}
	return l
}

func level(price, qty int64, orders int) api.Level {
	return api.Level{Price: price, Qty: qty, Orders: orders}
}

// tells wants these events, in this order.
func tells(t *testing.T, what string, got []api.Event, want ...[]api.Event) {
	t.Helper()
	l := slices.Concat(want...)
	if len(got) != len(l) {
		t.Fatalf("%s: %d events, want %d:\n%+v\n%+v", what, len(got), len(l), got, l)
	}
	for i := range l {
		if got[i] != l[i] {
			t.Fatalf("%s: event %d:\n%+v, want\n%+v", what, i, got[i], l[i])
		}
	}
}

func shows(t *testing.T, b *Book, side int, want ...api.Level) {
	t.Helper()
	if got := b.Depth(side, math.MaxInt); !slices.Equal(got, want) {
		t.Fatalf("Depth(%d): %v, want %v", side, got, want)
	}
}

// waits wants these orders on a side, in this order.
func waits(t *testing.T, b *Book, side int, want ...api.Order) {
	t.Helper()
	if got := b.Orders(side); !slices.Equal(got, want) {
		t.Fatalf("Orders(%d):\n%+v, want\n%+v", side, got, want)
	}
	for _, o := range want {
		if got, e := b.Order(o.ID); got != o || e != api.OK {
			t.Fatalf("Order(%d): %+v, %d", o.ID, got, e)
		}
	}
}

// numbers gives those of the orders that wait on a side, in their order.
func numbers(b *Book, side int) []int {
	var l []int
	for _, o := range b.Orders(side) {
		l = append(l, o.ID)
	}
	return l
}

// image is all that one can ask of a book, but for what Changed tells.
func image(b *Book) string {
	return fmt.Sprintln(b.Orders(api.Buy), b.Orders(api.Sell), b.Depth(api.Buy, 1000), b.Depth(api.Sell, 1000), b.Last())
}

func added(t *testing.T, b *Book, orders ...api.Order) {
	t.Helper()
	for _, o := range orders {
		tells(t, "Add", b.Add(o), of(api.EvAccepted, o))
	}
}

func rested(t *testing.T, b *Book, orders ...api.Order) {
	t.Helper()
	for _, o := range orders {
		tells(t, "Rest", b.Rest(o), of(api.EvAccepted, o))
	}
}

func TestK1New(t *testing.T) {
	for _, symbol := range []string{"ABC", "", "\x00|", "ä"} {
		b := New(symbol)
		if b == nil {
			t.Fatal("no book")
		}
		for _, side := range []int{api.Buy, api.Sell} {
			shows(t, b, side)
			waits(t, b, side)
			if p := b.Best(side); p != 0 {
				t.Errorf("Best(%d): %d", side, p)
			}
		}
		if l := b.Changed(); len(l) != 0 || b.Last() != 0 {
			t.Errorf("Changed: %v, Last: %d", l, b.Last())
		}
		o := but(bid(1, 10, 5, "A"), func(o *api.Order) { o.Symbol = symbol })
		if l := b.Add(o); len(l) != 1 || l[0].Kind != api.EvAccepted || l[0].Symbol != symbol || l[0].O != o {
			t.Errorf("%q: %+v", symbol, l)
		}
	}
}

// wrong is an order with a fault, and what Add and Rest say of it where next to nothing waits.
type wrong struct {
	what      string
	change    func(o *api.Order)
	add, rest api.Errno
}

func wrongOrders() []wrong {
	l := []wrong{
		{"symbol", func(o *api.Order) { o.Symbol = "ABD" }, api.ErrArg, api.ErrArg},
		{"no symbol", func(o *api.Order) { o.Symbol = "" }, api.ErrArg, api.ErrArg},
		{"no account", func(o *api.Order) { o.Account = "" }, api.ErrArg, api.ErrArg},
		{"show above", func(o *api.Order) { o.Show = 301 }, api.ErrArg, api.ErrArg},
		{"show below", func(o *api.Order) { o.Show = -1 }, api.ErrArg, api.ErrArg},
		{"show little", func(o *api.Order) { o.Show = 2 }, api.ErrArg, api.ErrArg},
		{"show wild", func(o *api.Order) { o.Show = math.MinInt64 }, api.ErrArg, api.ErrArg},
		{"show wild", func(o *api.Order) { o.Show = math.MaxInt64/100 + 1 }, api.ErrArg, api.ErrArg},
		{"show little of most", func(o *api.Order) { o.Qty, o.Show = api.MaxQty, 9999 }, api.ErrArg, api.ErrArg},
		{"least above", func(o *api.Order) { o.Least = 301 }, api.ErrArg, api.ErrArg},
		{"least below", func(o *api.Order) { o.Least = -1 }, api.ErrArg, api.ErrArg},
		{"AtOpen", func(o *api.Order) { o.Life = api.AtOpen }, api.ErrType, api.OK},
		{"AtOpen Market", func(o *api.Order) { o.Life, o.Type, o.Price = api.AtOpen, api.Market, 0 }, api.ErrType, api.OK},
		{"IOC", func(o *api.Order) { o.Life = api.IOC }, api.OK, api.ErrType},
		{"IOC Market", func(o *api.Order) { o.Life, o.Type, o.Price = api.IOC, api.Market, 0 }, api.OK, api.ErrType},
		{"FOK", func(o *api.Order) { o.Life = api.FOK }, api.ErrFill, api.ErrType},
		{"FOK Market", func(o *api.Order) { o.Life, o.Type, o.Price = api.FOK, api.Market, 0 }, api.ErrFill, api.ErrType},
		{"PostOnly Market", func(o *api.Order) { o.Life, o.Type, o.Price = api.PostOnly, api.Market, 0 }, api.ErrType, api.ErrType},
		{"Market with a price", func(o *api.Order) { o.Type = api.Market }, api.ErrType, api.ErrType},
		{"Market with a wild price", func(o *api.Order) { o.Type, o.Price = api.Market, -1 }, api.ErrType, api.ErrType},
		{"known", func(o *api.Order) { o.ID = 1 }, api.ErrKnown, api.ErrKnown},
		{"known of the other side", func(o *api.Order) { o.ID = 2 }, api.ErrKnown, api.ErrKnown},
		{"least", func(o *api.Order) { o.Least = 1 }, api.ErrFill, api.OK},
	}
	for _, n := range []int{math.MinInt, -1, 0, 3, 4, math.MaxInt} {
		l = append(l, wrong{"side", func(o *api.Order) { o.Side = n }, api.ErrArg, api.ErrArg})
	}
	for _, n := range []int{math.MinInt, -1, 0} {
		l = append(l, wrong{"number", func(o *api.Order) { o.ID = n }, api.ErrArg, api.ErrArg})
	}
	for _, n := range []int{math.MinInt, -1, 0, 8, math.MaxInt} {
		l = append(l, wrong{"life", func(o *api.Order) { o.Life = n }, api.ErrArg, api.ErrArg})
	}
	for _, n := range []int{math.MinInt, -1, 0, api.Stop, api.StopLimit, 5, math.MaxInt} {
		l = append(l, wrong{"type", func(o *api.Order) { o.Type = n }, api.ErrType, api.ErrType})
	}
	for _, n := range []int64{math.MinInt64, -1, 0, api.MaxPrice + 1, math.MaxInt64} {
		l = append(l, wrong{"price", func(o *api.Order) { o.Price = n }, api.ErrType, api.ErrType})
	}
	for _, n := range []int64{math.MinInt64, -1, 0, api.MaxQty + 1, math.MaxInt64} {
		l = append(l, wrong{"qty", func(o *api.Order) { o.Qty = n }, api.ErrArg, api.ErrArg})
	}
	for _, n := range []int64{math.MinInt64, -1, api.MaxQty + 1, math.MaxInt64} {
		l = append(l, wrong{"done", func(o *api.Order) { o.Done = n }, api.ErrArg, api.ErrArg})
	}
	return l
}

func TestK2K7Refusals(t *testing.T) {
	for _, c := range wrongOrders() {
		for _, side := range []int{api.Buy, api.Sell} {
			o := but(bid(3, 15, 300, "C"), func(o *api.Order) { o.Side = side; c.change(o) })
			for _, call := range []struct {
				name string
				do   func(b *Book, o api.Order) []api.Event
				want api.Errno
			}{{"Add", (*Book).Add, c.add}, {"Rest", (*Book).Rest, c.rest}} {
				b := New("ABC")
				added(t, b, bid(1, 10, 5, "A"), sale(2, 20, 5, "B"))
				was := image(b)
				b.Changed()
				got := call.do(b, o)
				if call.want == api.OK {
					if got[0].Kind != api.EvAccepted {
						t.Errorf("%s, %s: %+v", call.name, c.what, got)
					}
					continue
				}
				tells(t, call.name+", "+c.what, got, refusal(o, call.want))
				if image(b) != was || len(b.Changed()) != 0 {
					t.Errorf("%s, %s: %d changed the book", call.name, c.what, call.want)
				}
			}
		}
	}
}

func TestK2Edges(t *testing.T) {
	for i, change := range []func(o *api.Order){
		func(o *api.Order) {},
		func(o *api.Order) { o.ID = math.MaxInt },
		func(o *api.Order) { o.Qty = 1 },
		func(o *api.Order) { o.Qty = api.MaxQty },
		func(o *api.Order) { o.Done = api.MaxQty },
		func(o *api.Order) { o.Qty, o.Show = api.MaxQty, 10000 },
		func(o *api.Order) { o.Qty, o.Show = 300, 3 },
		func(o *api.Order) { o.Qty, o.Show = 200, 200 },
		func(o *api.Order) { o.Qty, o.Show = 1, 1 },
		func(o *api.Order) { o.Price = 1 },
		func(o *api.Order) { o.Price = api.MaxPrice },
		func(o *api.Order) { o.Life = api.GTC },
		func(o *api.Order) { o.Life = api.GTD },
		func(o *api.Order) { o.Life = api.PostOnly },
		func(o *api.Order) { o.Name, o.Owner, o.Stop, o.Until = "", -5, math.MinInt64, math.MinInt },
		func(o *api.Order) { o.Account = "\xff" },
	} {
		for _, o := range []api.Order{bid(1, 10, 5, "A"), sale(1, 10, 5, "A")} {
			change(&o)
			for _, do := range []func(b *Book, o api.Order) []api.Event{(*Book).Add, (*Book).Rest} {
				b := New("ABC")
				tells(t, "edge "+strconv.Itoa(i), do(b, o), of(api.EvAccepted, o))
				waits(t, b, o.Side, o)
			}
		}
	}
}

// Of several faults the one named first is told.
func TestK2K7FirstRefusal(t *testing.T) {
	b := New("ABC")
	added(t, b, sale(1, 20, 5, "A"))
	for i := range api.MaxOrders - 1 {
		added(t, b, bid(i+2, 10, 1, "B"))
	}
	o := but(bid(1, 20, 50, "C"), func(o *api.Order) { o.Life, o.Least = api.PostOnly, 50 })
	arg := but(o, func(o *api.Order) { o.Type, o.Account = api.Stop, "" })
	typ := but(o, func(o *api.Order) { o.Type = api.Stop })
	for _, do := range []func(b *Book, o api.Order) []api.Event{(*Book).Add, (*Book).Rest} {
		tells(t, "argument ahead of type", do(b, arg), refusal(arg, api.ErrArg))
		tells(t, "type ahead of known", do(b, typ), refusal(typ, api.ErrType))
		tells(t, "known ahead of many", do(b, o), refusal(o, api.ErrKnown))
		o := but(o, func(o *api.Order) { o.ID = 1000 })
		tells(t, "many ahead of cross", do(b, o), refusal(o, api.ErrMany))
	}
	brief := living(bid(1, 20, 50, "C"), api.IOC)
	tells(t, "a life that can't rest ahead of known", b.Rest(brief), refusal(brief, api.ErrType))
	if _, e := b.Cancel(2); e != api.OK {
		t.Fatal(e)
	}
	o.ID = 1000
	tells(t, "cross ahead of fill", b.Add(o), refusal(o, api.ErrCross))
	o.Life = api.Day
	tells(t, "fill", b.Add(o), refusal(o, api.ErrFill))
}

func TestK2Many(t *testing.T) {
	b := New("ABC")
	for i := range api.MaxOrders / 2 {
		added(t, b, bid(2*i+1, 10, 3, "A"), sale(2*i+2, 20, 3, "B"))
	}
	for _, life := range []int{api.Day, api.GTC, api.GTD, api.PostOnly} {
		for _, price := range []int64{5, 20} {
			o := living(bid(1000, price, 3, "C"), life)
			tells(t, "it could wait", b.Add(o), refusal(o, api.ErrMany))
			tells(t, "it would wait", b.Rest(o), refusal(o, api.ErrMany))
		}
	}
	m := living(market(bid(1000, 0, 1, "C")), api.AtOpen)
	tells(t, "a Market order would rest", b.Rest(m), refusal(m, api.ErrMany))
	first := sale(2, 20, 3, "B")
	for i, o := range []api.Order{living(bid(1000, 20, 1, "C"), api.IOC), living(bid(1001, 20, 1, "C"), api.FOK), market(bid(1002, 0, 1, "C"))} {
		left := gave(first, int64(i+1))
		tells(t, "these can't wait", b.Add(o), of(api.EvAccepted, o), trade(gave(o, 1), left, api.Buy, 20, 1))
	}
	o := bid(1003, 10, 1, "C")
	added(t, b, o) // one has gone
	tells(t, "full once more", b.Add(but(o, func(o *api.Order) { o.ID++ })), refusal(but(o, func(o *api.Order) { o.ID++ }), api.ErrMany))
	if _, e := b.Replace(1003, 11, 5); e != api.OK {
		t.Errorf("Replace in a full book: %d", e)
	}
}

func TestK2Cross(t *testing.T) {
	b := New("ABC")
	added(t, b, bid(1, 10, 5, "A"), sale(2, 20, 5, "B"))
	rested(t, b, market(bid(3, 0, 5, "A")), market(sale(4, 0, 5, "B")))
	for _, c := range []struct {
		o     api.Order
		cross bool
	}{
		{bid(5, 20, 1, "C"), true}, {bid(5, 21, 1, "C"), true}, {bid(5, 20, 1, "B"), true}, {bid(5, 19, 1, "C"), false},
		{sale(5, 10, 1, "C"), true}, {sale(5, 9, 1, "C"), true}, {sale(5, 10, 1, "A"), true}, {sale(5, 11, 1, "C"), false},
	} {
		o := living(c.o, api.PostOnly)
		if c.cross {
			tells(t, "PostOnly", b.Add(o), refusal(o, api.ErrCross))
			continue
		}
		tells(t, "PostOnly", b.Add(o), of(api.EvAccepted, o))
		b.Cancel(5)
	}
}

func TestK2Fill(t *testing.T) {
	for _, side := range []int{api.Buy, api.Sell} {
		b := New("ABC")
		at := func(id int, price, qty int64, account string) api.Order {
			if side == api.Sell { // all the other way round
				return bid(id, 100-price, qty, account)
			}
			return sale(id, price, qty, account)
		}
		come := func(price, qty, least int64, life int, account string) api.Order {
			o := but(at(9, price, qty, account), func(o *api.Order) { o.Side, o.Life, o.Least = side, life, least })
			return o
		}
		added(t, b, showing(at(1, 10, 100, "A"), 10), at(2, 11, 7, "B"), at(3, 11, 50, "C"))
		rested(t, b, market(at(4, 0, 1000, "D")))
		for _, c := range []struct {
			o    api.Order
			fits bool
		}{
			{come(9, 1, 1, api.Day, "C"), false},
			{come(10, 100, 0, api.FOK, "C"), true},
			{come(10, 101, 0, api.FOK, "C"), false},
			{come(10, 101, 100, api.Day, "C"), true},
			{come(10, 101, 101, api.Day, "C"), false},
			{come(10, 101, 100, api.IOC, "C"), true},
			{come(10, 101, 101, api.IOC, "C"), false},
			{come(11, 107, 0, api.FOK, "C"), true}, // its own account's do not count
			{come(11, 108, 0, api.FOK, "C"), false},
			{come(11, 108, 1, api.FOK, "C"), false}, // FOK needs all, whatever Least is
			{come(11, 157, 0, api.FOK, "E"), true},
			{come(11, 158, 0, api.FOK, "E"), false}, // Market orders that wait do not count
			{market(come(0, 157, 0, api.FOK, "E")), true},
			{market(come(0, 158, 0, api.FOK, "E")), false},
			{market(come(0, 200, 157, api.Day, "E")), true},
			{market(come(0, 200, 158, api.Day, "E")), false},
		} {
			if e := b.refusesToTrade(c.o); e != map[bool]api.Errno{true: api.OK, false: api.ErrFill}[c.fits] {
				t.Errorf("side %d: %+v: %d", side, c.o, e)
			}
		}
	}
}

func TestK3Example(t *testing.T) {
	b := New("ABC")
	s1, s2, s3 := sale(1, 10, 100, "A"), showing(sale(2, 10, 50, "B"), 20), sale(3, 11, 100, "C")
	added(t, b, s1, s2, s3)
	shows(t, b, api.Sell, level(10, 120, 2), level(11, 100, 1))
	o := bid(4, 10, 160, "D")
	tells(t, "the example", b.Add(o), of(api.EvAccepted, o),
		trade(gave(o, 100), gave(s1, 100), api.Buy, 10, 100),
		trade(gave(o, 120), gave(s2, 20), api.Buy, 10, 20),
		trade(gave(o, 140), gave(s2, 40), api.Buy, 10, 20),
		trade(gave(o, 150), gave(s2, 50), api.Buy, 10, 10))
	shows(t, b, api.Sell, level(11, 100, 1))
	shows(t, b, api.Buy, level(10, 10, 1))
	waits(t, b, api.Buy, gave(o, 150))
	fok := living(bid(5, 10, 300, "D"), api.FOK)
	tells(t, "FOK", b.Add(fok), refusal(fok, api.ErrFill))
	post := living(bid(5, 11, 1, "D"), api.PostOnly)
	tells(t, "PostOnly", b.Add(post), refusal(post, api.ErrCross))
}

// The better price first, then who has waited longer; what is shown anew stands behind the others of its price.
func TestK3Order(t *testing.T) {
	b := New("ABC")
	b1, b2, b3, b4, b5 := bid(1, 10, 5, "A"), showing(bid(2, 12, 9, "B"), 4), bid(3, 12, 3, "C"), bid(4, 11, 2, "D"), bid(5, 12, 6, "E")
	added(t, b, b1, b2, b3, b4, b5)
	waits(t, b, api.Buy, b2, b3, b5, b4, b1)
	o := sale(6, 11, 30, "F")
	tells(t, "a sale", b.Add(o), of(api.EvAccepted, o),
		trade(gave(b2, 4), gave(o, 4), api.Sell, 12, 4),
		trade(gave(b3, 3), gave(o, 7), api.Sell, 12, 3),
		trade(gave(b5, 6), gave(o, 13), api.Sell, 12, 6),
		trade(gave(b2, 8), gave(o, 17), api.Sell, 12, 4),
		trade(gave(b2, 9), gave(o, 18), api.Sell, 12, 1),
		trade(gave(b4, 2), gave(o, 20), api.Sell, 11, 2))
	waits(t, b, api.Buy, b1)
	waits(t, b, api.Sell, gave(o, 20))
	shows(t, b, api.Sell, level(11, 10, 1))
	if b.Last() != 11 {
		t.Errorf("Last: %d", b.Last())
	}
}

// What is shown anew, but not yet traded with, stays behind the others.
func TestK3ShownAnew(t *testing.T) {
	b := New("ABC")
	s1, s2 := showing(sale(1, 10, 9, "A"), 4), sale(2, 10, 5, "B")
	added(t, b, s1, s2)
	o := bid(3, 10, 3, "C")
	tells(t, "a part of what is shown", b.Add(o), of(api.EvAccepted, o), trade(gave(o, 3), gave(s1, 3), api.Buy, 10, 3))
	shows(t, b, api.Sell, level(10, 6, 2))
	waits(t, b, api.Sell, gave(s1, 3), s2) // it has kept its place
	o = bid(4, 10, 1, "C")
	tells(t, "the rest of it", b.Add(o), of(api.EvAccepted, o), trade(gave(o, 1), gave(s1, 4), api.Buy, 10, 1))
	shows(t, b, api.Sell, level(10, 9, 2))
	waits(t, b, api.Sell, s2, gave(s1, 4))
	added(t, b, sale(5, 10, 1, "D"))
	if got := numbers(b, api.Sell); !slices.Equal(got, []int{2, 1, 5}) {
		t.Errorf("who comes later: %v", got)
	}
	o = bid(6, 10, 10, "C")
	tells(t, "all of it", b.Add(o), of(api.EvAccepted, o),
		trade(gave(o, 5), gave(s2, 5), api.Buy, 10, 5),
		trade(gave(o, 9), gave(s1, 8), api.Buy, 10, 4),
		trade(gave(o, 10), gave(sale(5, 10, 1, "D"), 1), api.Buy, 10, 1))
	shows(t, b, api.Sell, level(10, 1, 1)) // no more than is left
}

func TestK3Own(t *testing.T) {
	b := New("ABC")
	s1, s2, s3, s4 := gave(showing(sale(1, 10, 8, "A"), 5), 2), sale(2, 11, 5, "B"), sale(3, 11, 5, "A"), sale(4, 12, 5, "A")
	added(t, b, s1, s2, s3, s4)
	o := bid(5, 11, 8, "A")
	tells(t, "its own that are met", b.Add(o), of(api.EvAccepted, o),
		of(api.EvCancelled, s1), trade(gave(o, 5), gave(s2, 5), api.Buy, 11, 5), of(api.EvCancelled, s3))
	waits(t, b, api.Sell, s4)
	waits(t, b, api.Buy, gave(o, 5))
	for _, id := range []int{1, 2, 3} {
		if got, e := b.Order(id); got != (api.Order{}) || e != api.ErrNone {
			t.Errorf("Order(%d): %+v, %d", id, got, e)
		}
	}
	b = New("ABC")
	added(t, b, bid(1, 10, 5, "A"), bid(2, 10, 5, "B"))
	o = sale(3, 10, 5, "B")
	tells(t, "nobody is met behind the last trade", b.Add(o), of(api.EvAccepted, o), trade(gave(bid(1, 10, 5, "A"), 5), gave(o, 5), api.Sell, 10, 5))
	waits(t, b, api.Buy, bid(2, 10, 5, "B"))
	o = living(sale(4, 9, 5, "B"), api.IOC)
	tells(t, "its own alone", b.Add(o), of(api.EvAccepted, o), of(api.EvCancelled, bid(2, 10, 5, "B")), of(api.EvCancelled, o))
}

func TestK3MarketPassedOver(t *testing.T) {
	b := New("ABC")
	m, own := market(sale(1, 0, 5, "A")), market(sale(2, 0, 5, "C"))
	rested(t, b, m, own)
	added(t, b, sale(3, 10, 5, "B"))
	o := bid(4, 12, 9, "C")
	tells(t, "with a limit", b.Add(o), of(api.EvAccepted, o), trade(gave(o, 5), gave(sale(3, 10, 5, "B"), 5), api.Buy, 10, 5))
	o = market(bid(5, 0, 9, "C"))
	tells(t, "without one", b.Add(o), of(api.EvAccepted, o), of(api.EvCancelled, o))
	waits(t, b, api.Sell, m, own)
}

func TestK4(t *testing.T) {
	for _, side := range []int{api.Buy, api.Sell} {
		for life := api.Day; life <= api.PostOnly; life++ {
			for _, typ := range []int{api.Limit, api.Market} {
				for _, there := range []int64{0, 3, 5, 8} {
					testLeft(t, side, life, typ, there)
				}
			}
		}
	}
}

// testLeft lets an order of 5 come to a book where so much waits at its price.
func testLeft(t *testing.T, side, life, typ int, there int64) {
	t.Helper()
	other := but(bid(1, 10, there, "A"), func(o *api.Order) { o.Side = 3 - side })
	o := but(living(bid(2, 10, 5, "B"), life), func(o *api.Order) { o.Side = side })
	if typ == api.Market {
		o = market(o)
	}
	b := New("ABC")
	if there > 0 {
		added(t, b, other)
	}
	var want []api.Event
	came, done := o, min(there, 5)
	switch {
	case life == api.AtOpen || life == api.PostOnly && typ == api.Market:
		want = refusal(o, api.ErrType)
	case life == api.PostOnly && there > 0:
		want = refusal(o, api.ErrCross)
	case life == api.FOK && done < 5:
		want = refusal(o, api.ErrFill)
	default:
		want = of(api.EvAccepted, o)
		x, y := gave(o, done), gave(other, done)
		if side == api.Sell {
			x, y = y, x
		}
		if done > 0 {
			want = append(want, trade(x, y, side, 10, done)...)
		}
		if o = gave(o, done); done < 5 && (typ == api.Market || life == api.IOC) {
			want = append(want, of(api.EvCancelled, o)...)
			o = api.Order{}
		}
	}
	tells(t, fmt.Sprint("side, life, type, there: ", side, life, typ, there), b.Add(came), want)
	switch {
	case want[0].Kind == api.EvRejected || o.Qty == 0:
		waits(t, b, side)
	default:
		waits(t, b, side, o)
	}
}

func TestK7Rest(t *testing.T) {
	b := New("ABC")
	b1, b2, b3 := bid(1, 10, 5, "A"), living(market(bid(2, 0, 6, "B")), api.AtOpen), living(bid(3, 12, 7, "A"), api.AtOpen)
	s4, s5, s6 := sale(4, 9, 5, "A"), living(market(sale(5, 0, 8, "B")), api.GTC), living(showing(sale(6, 8, 300, "C"), 3), api.PostOnly)
	b7 := but(bid(7, 11, 9, "C"), func(o *api.Order) { o.Least = 9 })
	rested(t, b, b1, b2, b3, s4, s5, s6, b7, market(bid(8, 0, 1, "D")))
	waits(t, b, api.Buy, b2, market(bid(8, 0, 1, "D")), b3, b7, b1)
	waits(t, b, api.Sell, s5, s6, s4)
	shows(t, b, api.Buy, level(12, 7, 1), level(11, 9, 1), level(10, 5, 1))
	shows(t, b, api.Sell, level(8, 3, 1), level(9, 5, 1))
	if b.Last() != 0 {
		t.Errorf("a trade at %d", b.Last())
	}
	known := sale(8, 9, 5, "A")
	tells(t, "known", b.Rest(known), refusal(known, api.ErrKnown))
}

func TestK8Cancel(t *testing.T) {
	b := New("ABC")
	o, m := gave(showing(bid(1, 10, 50, "A"), 20), 5), market(sale(3, 0, 4, "C"))
	added(t, b, o, sale(2, 20, 5, "B"))
	rested(t, b, m)
	for _, id := range []int{0, -1, 4, math.MinInt, math.MaxInt} {
		if l, e := b.Cancel(id); len(l) != 0 || e != api.ErrNone {
			t.Errorf("Cancel(%d): %+v, %d", id, l, e)
		}
	}
	for _, o := range []api.Order{o, m} {
		l, e := b.Cancel(o.ID)
		tells(t, "Cancel", l, of(api.EvCancelled, o))
		if l, again := b.Cancel(o.ID); e != api.OK || len(l) != 0 || again != api.ErrNone {
			t.Errorf("Cancel: %d; once more: %+v, %d", e, l, again)
		}
	}
	waits(t, b, api.Buy)
	waits(t, b, api.Sell, sale(2, 20, 5, "B"))
	added(t, b, o) // its number is free
}

func TestK9Refusals(t *testing.T) {
	b := New("ABC")
	added(t, b, showing(bid(1, 10, 50, "A"), 3), sale(2, 20, 5, "B"), living(bid(3, 9, 5, "C"), api.PostOnly), living(sale(4, 21, 5, "D"), api.PostOnly), bid(5, 11, 1, "D"))
	rested(t, b, market(bid(6, 0, 5, "C")), market(sale(7, 0, 5, "C")))
	was := image(b)
	b.Changed()
	for _, c := range []struct {
		id         int
		price, qty int64
		want       api.Errno
	}{
		{0, 10, 5, api.ErrNone}, {-1, 10, 5, api.ErrNone}, {8, 10, 5, api.ErrNone}, {math.MaxInt, 0, 0, api.ErrNone}, {math.MinInt, 10, 5, api.ErrNone},
		{1, 10, 0, api.ErrArg}, {1, 10, -1, api.ErrArg}, {1, 10, math.MinInt64, api.ErrArg}, {2, 20, api.MaxQty + 1, api.ErrArg}, {2, 20, math.MaxInt64, api.ErrArg},
		{1, 0, 5, api.ErrArg}, {1, -1, 5, api.ErrArg}, {1, math.MinInt64, 5, api.ErrArg}, {1, api.MaxPrice + 1, 5, api.ErrArg}, {1, math.MaxInt64, 5, api.ErrArg},
		{6, 1, 5, api.ErrArg}, {6, -1, 5, api.ErrArg}, {7, 10, 5, api.ErrArg}, {7, 0, 0, api.ErrArg},
		{1, 10, 301, api.ErrArg}, {1, 10, api.MaxQty, api.ErrArg},
		{3, 20, 5, api.ErrCross}, {3, 21, 5, api.ErrCross}, {3, 20, 1, api.ErrCross}, {3, api.MaxPrice, 6, api.ErrCross}, {3, 20, 0, api.ErrArg},
		{4, 11, 5, api.ErrCross}, {4, 10, 5, api.ErrCross}, {4, 1, 1, api.ErrCross}, // also its own account's
	} {
		if l, e := b.Replace(c.id, c.price, c.qty); len(l) != 0 || e != c.want {
			t.Errorf("Replace(%d, %d, %d): %+v, %d, want %d", c.id, c.price, c.qty, l, e, c.want)
		}
		if image(b) != was || len(b.Changed()) != 0 {
			t.Fatalf("Replace(%d, %d, %d) changed the book", c.id, c.price, c.qty)
		}
	}
}

// swapped wants a Replace to be told so.
func swapped(t *testing.T, b *Book, id int, price, qty int64, want ...[]api.Event) {
	t.Helper()
	l, e := b.Replace(id, price, qty)
	if e != api.OK {
		t.Fatalf("Replace(%d, %d, %d): %d", id, price, qty, e)
	}
	tells(t, fmt.Sprintf("Replace(%d, %d, %d)", id, price, qty), l, want...)
}

func TestK9KeepsItsPlace(t *testing.T) {
	b := New("ABC")
	o := but(showing(bid(1, 10, 50, "A"), 20), func(o *api.Order) { o.Least, o.Done = 0, 7 })
	added(t, b, o, bid(2, 10, 5, "B"))
	o.Qty = 30
	swapped(t, b, 1, 10, 30, of(api.EvReplaced, o))
	shows(t, b, api.Buy, level(10, 25, 2))
	x := sale(3, 10, 5, "C")
	b.Add(x) // 15 are shown then
	o = gave(o, 5)
	swapped(t, b, 1, 10, 25, of(api.EvReplaced, o)) // as it is
	shows(t, b, api.Buy, level(10, 20, 2))
	o.Qty = 16
	o.Show = 16
	swapped(t, b, 1, 10, 16, of(api.EvReplaced, o))
	shows(t, b, api.Buy, level(10, 20, 2)) // what was shown stays, where it may
	o.Qty, o.Show = 4, 4
	swapped(t, b, 1, 10, 4, of(api.EvReplaced, o))
	shows(t, b, api.Buy, level(10, 9, 2))
	waits(t, b, api.Buy, o, bid(2, 10, 5, "B"))

	b = New("ABC")
	least := but(bid(1, 10, 50, "A"), func(o *api.Order) { o.Least = 40 })
	rested(t, b, least, market(sale(2, 0, 9, "B")), market(sale(3, 0, 9, "C")), living(bid(4, 30, 5, "D"), api.PostOnly), sale(5, 20, 5, "E"))
	least.Qty, least.Least = 45, 40
	swapped(t, b, 1, 10, 45, of(api.EvReplaced, least))
	least.Qty, least.Least = 30, 30
	swapped(t, b, 1, 10, 30, of(api.EvReplaced, least))
	swapped(t, b, 2, 0, 8, of(api.EvReplaced, market(sale(2, 0, 8, "B"))))
	if got := numbers(b, api.Sell); !slices.Equal(got, []int{2, 3, 5}) {
		t.Errorf("Market orders: %v", got)
	}
	swapped(t, b, 4, 30, 4, of(api.EvReplaced, living(bid(4, 30, 4, "D"), api.PostOnly))) // it crosses, but keeps its place
}

func TestK9LosesItsPlace(t *testing.T) {
	b := New("ABC")
	b1, b2, b3 := showing(bid(1, 10, 50, "A"), 20), bid(2, 10, 5, "B"), bid(3, 10, 5, "C")
	added(t, b, b1, b2, b3)
	b1.Qty = 51
	swapped(t, b, 1, 10, 51, of(api.EvReplaced, b1))
	waits(t, b, api.Buy, b2, b3, b1)
	b2.Price, b2.Qty = 11, 3
	swapped(t, b, 2, 11, 3, of(api.EvReplaced, b2))
	waits(t, b, api.Buy, b2, b3, b1)
	b2.Price = 10
	swapped(t, b, 2, 10, 3, of(api.EvReplaced, b2))
	waits(t, b, api.Buy, b3, b1, b2)
	b1.Price, b1.Qty, b1.Show = 9, 6, 6
	swapped(t, b, 1, 9, 6, of(api.EvReplaced, b1))
	shows(t, b, api.Buy, level(10, 8, 2), level(9, 6, 1))
	b1.Qty = 600
	swapped(t, b, 1, 9, 600, of(api.EvReplaced, b1)) // just a hundredth is shown
	shows(t, b, api.Buy, level(10, 8, 2), level(9, 6, 1))
	if l, e := b.Replace(1, 9, 601); len(l) != 0 || e != api.ErrArg {
		t.Errorf("less than a hundredth: %v, %d", l, e)
	}
	post := living(sale(4, 30, 5, "D"), api.PostOnly)
	added(t, b, post)
	post.Price = 11
	swapped(t, b, 4, 11, 5, of(api.EvReplaced, post))

	b = New("ABC")
	s1 := but(sale(1, 20, 50, "A"), func(o *api.Order) { o.Least = 40 })
	rested(t, b, s1, market(sale(2, 0, 5, "B")), market(sale(3, 0, 5, "C")))
	s1.Price, s1.Qty, s1.Least = 19, 30, 30
	swapped(t, b, 1, 19, 30, of(api.EvReplaced, s1)) // Least does not count here
	swapped(t, b, 2, 0, 6, of(api.EvReplaced, market(sale(2, 0, 6, "B"))))
	if got := numbers(b, api.Sell); !slices.Equal(got, []int{3, 2, 1}) {
		t.Errorf("Market orders: %v", got)
	}
}

func TestK9Trades(t *testing.T) {
	b := New("ABC")
	s1, s2, s3 := showing(sale(1, 20, 10, "A"), 4), sale(2, 20, 5, "B"), sale(3, 21, 5, "C")
	o := bid(4, 10, 5, "B")
	added(t, b, s1, s2, s3, o)
	o.Price, o.Qty = 20, 12
	swapped(t, b, 4, 20, 12, of(api.EvReplaced, o),
		trade(gave(o, 4), gave(s1, 4), api.Buy, 20, 4), of(api.EvCancelled, s2),
		trade(gave(o, 8), gave(s1, 8), api.Buy, 20, 4), trade(gave(o, 10), gave(s1, 10), api.Buy, 20, 2))
	waits(t, b, api.Buy, gave(o, 10))
	waits(t, b, api.Sell, s3)
	if b.Last() != 20 {
		t.Errorf("Last: %d", b.Last())
	}
	o = gave(o, 10)
	s3.Price, s3.Qty = 19, 1
	swapped(t, b, 3, 19, 1, of(api.EvReplaced, s3), trade(gave(o, 1), gave(s3, 1), api.Sell, 20, 1))
	waits(t, b, api.Sell)
	if _, e := b.Order(3); e != api.ErrNone {
		t.Errorf("Order(3): %d", e)
	}

	b = New("ABC")
	m := market(bid(1, 0, 5, "A"))
	rested(t, b, m, sale(2, 20, 3, "B"), market(sale(3, 0, 3, "C")))
	m.Qty = 6
	swapped(t, b, 1, 0, 6, of(api.EvReplaced, m), trade(gave(m, 3), gave(sale(2, 20, 3, "B"), 3), api.Buy, 20, 3))
	waits(t, b, api.Buy, gave(m, 3)) // a Market order goes on waiting
}

func TestK10Fill(t *testing.T) {
	b := New("ABC")
	b1, b2, m := showing(bid(1, 12, 10, "A"), 4), bid(2, 12, 5, "A"), market(bid(3, 0, 5, "B"))
	s4, s5 := sale(4, 10, 12, "A"), showing(sale(5, 11, 9, "C"), 3)
	rested(t, b, b1, b2, m, s4, s5)
	tells(t, "fills", b.Fill([]api.Fill{
		{Buy: 3, Sell: 4, Taker: api.Buy, Price: 30, Qty: 5}, // of any price, and of a Market order
		{Buy: 1, Sell: 4, Taker: -9, Price: 11, Qty: 3},      // of one account
		{Buy: 1, Sell: 5, Price: 11, Qty: 2},                 // more than is shown
		{Buy: 1, Sell: 4, Price: 9, Qty: 1},
	}),
		trade(gave(m, 5), gave(s4, 5), 0, 30, 5), trade(gave(b1, 3), gave(s4, 8), 0, 11, 3),
		trade(gave(b1, 5), gave(s5, 2), 0, 11, 2), trade(gave(b1, 6), gave(s4, 9), 0, 9, 1))
	waits(t, b, api.Buy, gave(b1, 6), b2) // the place that it had
	waits(t, b, api.Sell, gave(s4, 9), gave(s5, 2))
	shows(t, b, api.Buy, level(12, 8, 2)) // 4 anew behind the third, 1 less: 3
	shows(t, b, api.Sell, level(10, 3, 1), level(11, 1, 1))
	if b.Last() != 9 {
		t.Errorf("Last: %d", b.Last())
	}
	tells(t, "to the end", b.Fill([]api.Fill{{Buy: 1, Sell: 5, Price: api.MaxPrice, Qty: 3}, {Buy: 1, Sell: 5, Price: 1, Qty: 1}}),
		trade(gave(b1, 9), gave(s5, 5), 0, api.MaxPrice, 3), trade(gave(b1, 10), gave(s5, 6), 0, 1, 1))
	shows(t, b, api.Buy, level(12, 5, 1))
	shows(t, b, api.Sell, level(10, 3, 1), level(11, 2, 1))
	if l := b.Fill(nil); len(l) != 0 {
		t.Errorf("nothing: %v", l)
	}
}

func TestK10PassedOver(t *testing.T) {
	b := New("ABC")
	rested(t, b, bid(1, 12, 10, "A"), sale(2, 10, 8, "B"), sale(3, 10, api.MaxQty, "B"), bid(4, 10, api.MaxQty, "B"))
	was := image(b)
	b.Changed()
	fills := []api.Fill{{Buy: 2, Sell: 1, Price: 11, Qty: 1}, {Buy: 1, Sell: 1, Price: 11, Qty: 1}, {Buy: 2, Sell: 2, Price: 11, Qty: 1}, {Buy: 1, Sell: 3, Price: 11, Qty: 11}, {Buy: 4, Sell: 2, Price: 11, Qty: 9}}
	for _, id := range []int{0, -1, 5, math.MinInt, math.MaxInt} {
		fills = append(fills, api.Fill{Buy: id, Sell: 2, Price: 11, Qty: 1}, api.Fill{Buy: 1, Sell: id, Price: 11, Qty: 1}, api.Fill{Buy: id, Sell: id, Price: 11, Qty: 1})
	}
	for _, n := range []int64{math.MinInt64, -1, 0} {
		fills = append(fills, api.Fill{Buy: 1, Sell: 2, Price: n, Qty: 1}, api.Fill{Buy: 1, Sell: 2, Price: 11, Qty: n})
	}
	for _, n := range []int64{api.MaxPrice + 1, math.MaxInt64} {
		fills = append(fills, api.Fill{Buy: 1, Sell: 2, Price: n, Qty: 1}, api.Fill{Buy: 3, Sell: 4, Price: 11, Qty: n - api.MaxPrice + api.MaxQty})
	}
	handed := slices.Clone(fills)
	if l := b.Fill(fills); len(l) != 0 || image(b) != was || len(b.Changed()) != 0 || !slices.Equal(fills, handed) {
		t.Errorf("passed over: %+v", l)
	}
	for _, f := range fills {
		if l := b.Fill([]api.Fill{f}); len(l) != 0 {
			t.Errorf("%+v: %+v", f, l)
		}
	}
	between := []api.Fill{fills[0], {Buy: 1, Sell: 2, Price: 11, Qty: 8}, {Buy: 1, Sell: 2, Price: 11, Qty: 1}, {Buy: 4, Sell: 3, Price: 10, Qty: api.MaxQty}}
	tells(t, "the others are done", b.Fill(between), trade(gave(bid(1, 12, 10, "A"), 8), gave(sale(2, 10, 8, "B"), 8), 0, 11, 8),
		trade(gave(bid(4, 10, api.MaxQty, "B"), api.MaxQty), gave(sale(3, 10, api.MaxQty, "B"), api.MaxQty), 0, 10, api.MaxQty))
}

func TestK11Asking(t *testing.T) {
	b := New("ABC")
	rested(t, b, bid(1, 10, 5, "A"), showing(bid(2, 12, 9, "A"), 2), bid(3, 12, 4, "B"), market(bid(4, 0, 50, "A")), market(bid(5, 0, 60, "A")), bid(6, api.MaxPrice, 1, "A"), bid(7, 1, 2, "A"))
	rested(t, b, sale(11, 10, 5, "A"), showing(sale(12, 12, 9, "A"), 2), sale(13, 12, 4, "B"), market(sale(14, 0, 50, "A")), sale(16, api.MaxPrice, 1, "A"), sale(17, 1, 2, "A"))
	if got := numbers(b, api.Buy); !slices.Equal(got, []int{4, 5, 6, 2, 3, 1, 7}) {
		t.Errorf("Orders(Buy): %v", got)
	}
	if got := numbers(b, api.Sell); !slices.Equal(got, []int{14, 17, 11, 12, 13, 16}) {
		t.Errorf("Orders(Sell): %v", got)
	}
	buys := []api.Level{level(api.MaxPrice, 1, 1), level(12, 6, 2), level(10, 5, 1), level(1, 2, 1)}
	sells := []api.Level{level(1, 2, 1), level(10, 5, 1), level(12, 6, 2), level(api.MaxPrice, 1, 1)}
	for _, most := range []int{math.MinInt, -1, 0, 1, 2, 3, 4, 5, math.MaxInt} {
		n := max(0, min(most, 4))
		if x, y := b.Depth(api.Buy, most), b.Depth(api.Sell, most); !slices.Equal(x, buys[:n]) || !slices.Equal(y, sells[:n]) {
			t.Errorf("Depth, %d: %v, %v", most, x, y)
		}
	}
	if b.Best(api.Buy) != api.MaxPrice || b.Best(api.Sell) != 1 {
		t.Errorf("Best: %d, %d", b.Best(api.Buy), b.Best(api.Sell))
	}
	for _, side := range []int{math.MinInt, -1, 0, 3, math.MaxInt} {
		if x, y := b.Orders(side), b.Depth(side, 9); len(x) != 0 || len(y) != 0 || b.Best(side) != 0 {
			t.Errorf("side %d: %v, %v, %d", side, x, y, b.Best(side))
		}
	}
	for _, id := range []int{math.MinInt, -1, 0, 8, math.MaxInt} {
		if o, e := b.Order(id); o != (api.Order{}) || e != api.ErrNone {
			t.Errorf("Order(%d): %+v, %d", id, o, e)
		}
	}
	only := New("ABC")
	rested(t, only, market(sale(1, 0, 5, "A")))
	if only.Best(api.Sell) != 0 || len(only.Depth(api.Sell, 9)) != 0 {
		t.Error("a Market order is no level")
	}
}

// moved wants Changed to tell these levels: those of Buy, those of Sell.
func moved(t *testing.T, b *Book, buys, sells []api.Level) {
	t.Helper()
	var want []api.Event
	for _, x := range buys {
		want = append(want, api.Event{Kind: api.EvLevel, Symbol: "ABC", Side: api.Buy, Level: x})
	}
	for _, x := range sells {
		want = append(want, api.Event{Kind: api.EvLevel, Symbol: "ABC", Side: api.Sell, Level: x})
	}
	tells(t, "Changed", b.Changed(), want)
	if l := b.Changed(); len(l) != 0 {
		t.Errorf("Changed at once again: %v", l)
	}
}

func TestK12Changed(t *testing.T) {
	b := New("ABC")
	moved(t, b, nil, nil)
	added(t, b, bid(1, 10, 5, "A"), sale(2, 20, 5, "B"), sale(3, 18, 5, "B"), bid(4, 12, 5, "A"), bid(5, 11, 5, "A"), sale(6, 19, 5, "B"))
	moved(t, b, []api.Level{level(12, 5, 1), level(11, 5, 1), level(10, 5, 1)}, []api.Level{level(18, 5, 1), level(19, 5, 1), level(20, 5, 1)})
	b.Cancel(4)
	added(t, b, bid(7, 12, 5, "A"))
	moved(t, b, nil, nil) // as it was
	b.Cancel(7)
	added(t, b, showing(bid(8, 12, 9, "A"), 3), bid(9, 12, 2, "A"))
	moved(t, b, []api.Level{level(12, 5, 2)}, nil) // one order more, as much shown
	b.Replace(9, 12, 1)
	moved(t, b, []api.Level{level(12, 4, 2)}, nil)
	rested(t, b, market(bid(10, 0, 5, "A")))
	moved(t, b, nil, nil)
	b.Replace(8, 13, 9)
	b.Add(bid(11, 19, 7, "C")) // 5 at 18, 2 at 19
	b.Cancel(1)
	added(t, b, bid(12, 1, 4, "A"), sale(13, 30, 4, "A"))
	b.Cancel(2)
	moved(t, b, []api.Level{level(13, 3, 1), level(12, 1, 1), level(10, 0, 0), level(1, 4, 1)}, []api.Level{level(18, 0, 0), level(19, 3, 1), level(20, 0, 0), level(30, 4, 1)})
	added(t, b, bid(14, 5, 1, "A"))
	b.Cancel(14) // came and went
	moved(t, b, nil, nil)
	b.Fill([]api.Fill{{Buy: 8, Sell: 6, Price: 15, Qty: 3}})
	moved(t, b, nil, []api.Level{level(19, 0, 0)}) // the buyer's is shown anew
	b.Cancel(13)
	moved(t, b, nil, []api.Level{level(30, 0, 0)})
	added(t, b, sale(15, 30, 4, "A"))
	moved(t, b, nil, []api.Level{level(30, 4, 1)})
}

// As many levels as there can be, all on one side.
func TestK12AllLevels(t *testing.T) {
	for _, side := range []int{api.Buy, api.Sell} {
		b := New("ABC")
		var want []api.Level
		for i := range api.MaxOrders {
			price := int64(1 + i)
			added(t, b, but(bid(i+1, price, 2, "A"), func(o *api.Order) { o.Side = side }))
			want = append(want, level(price, 2, 1))
		}
		if side == api.Buy {
			slices.Reverse(want)
			moved(t, b, want, nil)
			continue
		}
		moved(t, b, nil, want)
	}
}

// As many trades as one order can have: all that wait show no more than they must.
func TestK3MostTrades(t *testing.T) {
	b := New("ABC")
	for i := range api.MaxOrders {
		added(t, b, showing(sale(i+1, 10, 2000, "A"), 20))
	}
	o := living(bid(1000, 10, api.MaxQty, "B"), api.FOK)
	l := b.Add(o)
	if len(l) != 1+2*100*api.MaxOrders {
		t.Fatalf("%d events", len(l))
	}
	for i := range 100 * api.MaxOrders { // all of them in turn, a hundred times
		if f := l[1+2*i].F; f != (api.Fill{Buy: 1000, Sell: 1 + i%api.MaxOrders, Taker: api.Buy, Price: 10, Qty: 20}) {
			t.Fatalf("trade %d: %+v", i, f)
		}
	}
	waits(t, b, api.Sell)
	waits(t, b, api.Buy)
}

// P2, P3: answers are new memory; who writes into them changes nothing.
func TestAnswersAreNew(t *testing.T) {
	b := New("ABC")
	rested(t, b, bid(1, 10, 5, "A"), bid(2, 9, 5, "A"), bid(3, 9, 5, "A"), sale(4, 20, 5, "B"), sale(5, 21, 5, "B"))
	was := image(b)
	orders, depth := b.Orders(api.Buy), b.Depth(api.Buy, 2)
	for _, l := range [][]api.Order{orders, append(orders, orders...), orders[:cap(orders)]} {
		clear(l)
	}
	clear(append(depth, depth...))
	clear(depth[:cap(depth)])
	clear(b.Changed())
	if image(b) != was {
		t.Error("an answer is the book's")
	}
	if l := b.Changed(); len(l) != 0 {
		t.Errorf("what Changed told is the book's: %v", l)
	}
	fills := []api.Fill{{Buy: 1, Sell: 4, Price: 15, Qty: 5}, {Buy: 2, Sell: 5, Price: 15, Qty: 5}}
	l := b.Fill(fills)
	clear(fills)
	if l[3].F.Buy != 2 {
		t.Error("an answer shares what was handed in")
	}
}

// P4: books have nothing to do with one another.
func TestBooksStandAlone(t *testing.T) {
	run := func() string {
		b := New("ABC")
		var all []api.Event
		for i := range 400 {
			side, price := 1+i%2, int64(10+i*7%5)
			all = append(all, b.Add(but(showing(bid(i+1, price, int64(1+i%30), "A"+strconv.Itoa(i%3)), 1), func(o *api.Order) { o.Side = side }))...)
			all = append(all, b.Changed()...)
		}
		return fmt.Sprint(all)
	}
	want := run()
	var wait sync.WaitGroup
	for range 8 {
		wait.Go(func() {
			if run() != want {
				t.Error("another answer")
			}
		})
	}
	wait.Wait()
}

// Who goes through those that suit meets each once, and who went behind others once more, also where it comes to stand at the same place.
func TestSuiting(t *testing.T) {
	b := New("ABC")
	rested(t, b, market(sale(1, 0, 5, "A")), sale(2, 10, 5, "A"), sale(3, 10, 5, "B"), sale(4, 11, 5, "A"), sale(5, 12, 5, "C"))
	for _, c := range []struct {
		o    api.Order
		want []int
	}{{bid(9, 9, 1, "A"), nil}, {bid(9, 10, 1, "A"), []int{2, 3}}, {bid(9, 11, 1, "A"), []int{2, 3, 4}}, {market(bid(9, 0, 1, "A")), []int{2, 3, 4, 5}}, {sale(9, 1, 1, "A"), nil}} {
		var got []int
		for w := range b.suiting(c.o) {
			got = append(got, w.o.ID)
		}
		if !reflect.DeepEqual(got, c.want) {
			t.Errorf("%+v: %v, want %v", c.o, got, c.want)
		}
	}
	var got []int
	behind := map[int]bool{}
	for w := range b.suiting(bid(9, 11, 1, "A")) {
		got = append(got, w.o.ID)
		if w.o.ID == 3 || behind[w.o.ID] {
			b.remove(w)
			continue
		}
		behind[w.o.ID] = true
		b.leave(w)
		b.enter(w)
	}
	if want := []int{2, 3, 2, 4, 4}; !slices.Equal(got, want) || !slices.Equal(numbers(b, api.Sell), []int{1, 5}) {
		t.Errorf("%v, want %v; %v are left", got, want, numbers(b, api.Sell))
	}
}
