package risk

import (
	"fmt"
	"math"
	"slices"
	"strings"
	"sync"
	"testing"

	"outcry/api"
)

const most = 1000000000000000000 // of an amount

func guarded(t *testing.T, l ...api.Account) *Guard {
	t.Helper()
	g, e := New(l)
	if g == nil || e != api.OK {
		t.Fatalf("New(%+v): %v, %d", l, g, e)
	}
	return g
}

func buy(id int, price, qty int64) api.Order {
	return api.Order{ID: id, Account: "A", Symbol: "X", Side: api.Buy, Type: api.Limit, Price: price, Qty: qty}
}

func sell(id int, price, qty int64) api.Order {
	o := buy(id, price, qty)
	o.Side = api.Sell
	return o
}

func of(account string, o api.Order) api.Order {
	o.Account = account
	return o
}

func in(symbol string, o api.Order) api.Order {
	o.Symbol = symbol
	return o
}

func checkErrno(t *testing.T, name string, got, want api.Errno) {
	t.Helper()
	if got != want {
		t.Errorf("%s: %d, want %d", name, got, want)
	}
}

func checkLook(t *testing.T, name string, g *Guard, account, symbol string, open, position int64) {
	t.Helper()
	o, p, e := g.Look(account, symbol)
	if o != open || p != position || e != api.OK {
		t.Errorf("%s: %d, %d, %d, want %d, %d, 0", name, o, p, e, open, position)
	}
}

// opened opens orders, all of which may be.
func opened(t *testing.T, g *Guard, orders ...api.Order) {
	t.Helper()
	for _, o := range orders {
		if e := g.Open(o, 0); e != api.OK {
			t.Fatalf("Open(%+v): %d", o, e)
		}
	}
}

// traded moves a position by as many trades as it needs.
func traded(t *testing.T, g *Guard, account, symbol string, qty int64) {
	t.Helper()
	for qty != 0 {
		part := min(max(qty, -api.MaxQty), api.MaxQty)
		if e := g.Trade(account, symbol, part); e != api.OK {
			t.Fatalf("Trade(%d): %d", part, e)
		}
		qty -= part
	}
}

func TestExampleOfAnOrdersValue(t *testing.T) {
	g := guarded(t, api.Account{Name: "A", Order: 1000})
	checkErrno(t, "10 at 101", g.Check(buy(1, 101, 10), 0, 0), api.ErrLimit)
	checkErrno(t, "10 at 100", g.Check(buy(1, 100, 10), 0, 0), api.OK)
}

func TestExampleOfAPosition(t *testing.T) {
	g := guarded(t, api.Account{Name: "A", Position: 100})
	traded(t, g, "A", "X", 60)
	opened(t, g, buy(1, 5, 30))
	checkErrno(t, "a buy of 10", g.Check(buy(2, 5, 10), 0, 0), api.OK)
	checkErrno(t, "a buy of 11", g.Check(buy(2, 5, 11), 0, 0), api.ErrLimit)
	checkErrno(t, "a sell of 160", g.Check(sell(2, 5, 160), 0, 0), api.OK)
	checkErrno(t, "a sell of 161", g.Check(sell(2, 5, 161), 0, 0), api.ErrLimit)
}

func TestExampleOfARate(t *testing.T) {
	g := guarded(t, api.Account{Name: "A", Burst: 2, Per: 100})
	for i, c := range []struct {
		now  int64
		want api.Errno
	}{{0, api.OK}, {0, api.OK}, {0, api.ErrRate}, {99, api.ErrRate}, {100, api.OK}, {100, api.ErrRate}} {
		checkErrno(t, fmt.Sprint(i, " at ", c.now), g.Check(buy(1, 1, 1), 0, c.now), c.want)
	}
}

func TestG1WhatMayBe(t *testing.T) {
	for _, c := range []struct {
		a    api.Account
		want bool
	}{
		{api.Account{Name: "A"}, true},
		{api.Account{Name: "Z"}, true},
		{api.Account{Name: "0"}, true},
		{api.Account{Name: "9"}, true},
		{api.Account{Name: "AZ09"}, true},
		{api.Account{Name: "ABCDEFGHIJKL"}, true},
		{api.Account{Name: "ABCDEFGHIJKLM"}, false},
		{api.Account{Name: strings.Repeat("A", 100000)}, false},
		{api.Account{Name: ""}, false},
		{api.Account{Name: "a"}, false},
		{api.Account{Name: "AaA"}, false},
		{api.Account{Name: "A "}, false},
		{api.Account{Name: " A"}, false},
		{api.Account{Name: "A-"}, false},
		{api.Account{Name: "@"}, false},
		{api.Account{Name: "["}, false},
		{api.Account{Name: "/"}, false},
		{api.Account{Name: ":"}, false},
		{api.Account{Name: "A\x00"}, false},
		{api.Account{Name: "\xff"}, false},
		{api.Account{Name: "Ä"}, false},
		{api.Account{Name: "A", Order: most, Open: most, Position: most, Burst: 1000, Per: 86400000}, true},
		{api.Account{Name: "A", Order: 1, Open: 1, Position: 1, Burst: 1, Per: 1}, true},
		{api.Account{Name: "A", Order: most + 1}, false},
		{api.Account{Name: "A", Order: -1}, false},
		{api.Account{Name: "A", Order: math.MaxInt64}, false},
		{api.Account{Name: "A", Order: math.MinInt64}, false},
		{api.Account{Name: "A", Open: most + 1}, false},
		{api.Account{Name: "A", Open: -1}, false},
		{api.Account{Name: "A", Position: most + 1}, false},
		{api.Account{Name: "A", Position: -1}, false},
		{api.Account{Name: "A", Burst: 1001}, false},
		{api.Account{Name: "A", Burst: -1}, false},
		{api.Account{Name: "A", Burst: math.MinInt}, false},
		{api.Account{Name: "A", Burst: 1, Per: 86400001}, false},
		{api.Account{Name: "A", Burst: 1, Per: -1}, false},
		{api.Account{Name: "A", Per: math.MaxInt}, false},
	} {
		want := api.OK
		if !c.want {
			want = api.ErrArg
		}
		g, e := New([]api.Account{{Name: "B"}, c.a})
		if e != want || (g != nil) != c.want {
			t.Errorf("New(%+v): %v, %d, want %d", c.a, g, e, want)
		}
		checkErrno(t, fmt.Sprintf("Set(%+v)", c.a), guarded(t).Set(c.a), want)
	}
}

func accounts(n int) []api.Account {
	var l []api.Account
	for i := range n {
		l = append(l, api.Account{Name: fmt.Sprint("A", i), Order: int64(i + 1)})
	}
	return l
}

func TestG1New(t *testing.T) {
	right, wrong := api.Account{Name: "A"}, api.Account{Name: "A", Order: -1}
	for _, c := range []struct {
		name string
		l    []api.Account
		want api.Errno
	}{
		{"nil", nil, api.OK},
		{"none", []api.Account{}, api.OK},
		{"as many as may be", accounts(16), api.OK},
		{"one more", accounts(17), api.ErrMany},
		{"many that may not be", make([]api.Account, 17), api.ErrMany},
		{"many, a name twice", slices.Repeat([]api.Account{right}, 17), api.ErrMany},
		{"very many", make([]api.Account, 100000), api.ErrMany},
		{"a name twice", []api.Account{right, right}, api.ErrKnown},
		{"a name twice, with other limits", []api.Account{right, {Name: "A", Open: 5}}, api.ErrKnown},
		{"a name twice, not one behind the other", []api.Account{right, {Name: "B"}, right}, api.ErrKnown},
		{"a name twice, then wrong", []api.Account{right, right, {}}, api.ErrKnown},
		{"wrong, then a name twice", []api.Account{right, {}, right}, api.ErrArg},
		{"a name twice, and wrong", []api.Account{right, wrong}, api.ErrArg},
		{"the first is wrong", []api.Account{wrong, right}, api.ErrArg},
		{"sixteen, the last a name twice", append(accounts(15), api.Account{Name: "A0"}), api.ErrKnown},
		{"names of which one begins with the other", []api.Account{{Name: "A"}, {Name: "AA"}, {Name: "B"}}, api.OK},
	} {
		g, e := New(c.l)
		if e != c.want || (g != nil) != (e == api.OK) {
			t.Errorf("%s: %v, %d, want %d", c.name, g, e, c.want)
		}
		for _, a := range c.l {
			if g != nil {
				checkLook(t, c.name, g, a.Name, "X", 0, 0)
			}
		}
	}
}

func TestG1NewIsFresh(t *testing.T) {
	g := guarded(t, api.Account{Name: "A", Order: 100, Open: 100, Position: 100, Burst: 1, Per: 1000})
	checkLook(t, "nothing", g, "A", "X", 0, 0)
	checkErrno(t, "not stopped, due 0", g.Check(buy(1, 1, 100), 0, 0), api.OK)
	checkErrno(t, "nothing is open", g.Done(1), api.ErrNone)
}

func TestG1NewKeepsNothing(t *testing.T) {
	l := make([]api.Account, 2, 4)
	l[0], l[1] = api.Account{Name: "A", Order: 10}, api.Account{Name: "B"}
	before := slices.Clone(l[:4])
	g := guarded(t, l...)
	if !slices.Equal(l[:4], before) {
		t.Errorf("written into: %+v", l[:4])
	}
	l[0] = api.Account{Name: "C", Order: 5}
	checkErrno(t, "as it was handed in", g.Check(buy(1, 1, 10), 0, 0), api.OK)
	checkErrno(t, "above", g.Check(buy(1, 1, 11), 0, 0), api.ErrLimit)
	_, _, e := g.Look("C", "X")
	checkErrno(t, "C", e, api.ErrAccount)
}

func TestG1SetMany(t *testing.T) {
	g := guarded(t, accounts(14)...)
	for _, c := range []struct {
		a    api.Account
		want api.Errno
	}{
		{api.Account{Name: "X"}, api.OK},
		{api.Account{Name: "X", Order: 7}, api.OK},
		{api.Account{Name: "Y"}, api.OK},
		{api.Account{Name: "Z"}, api.ErrMany},
		{api.Account{Name: "z"}, api.ErrArg},
		{api.Account{Name: "Z", Open: -1}, api.ErrArg},
		{api.Account{Name: "X", Order: 8}, api.OK},
		{api.Account{Name: "X", Order: -8}, api.ErrArg},
		{api.Account{Name: "A0", Burst: 1, Per: 1}, api.OK},
	} {
		checkErrno(t, fmt.Sprintf("Set(%+v)", c.a), g.Set(c.a), c.want)
	}
	_, _, e := g.Look("Z", "X")
	checkErrno(t, "Z", e, api.ErrAccount)
	checkErrno(t, "X as it was set last", g.Check(of("X", buy(1, 1, 8)), 0, 0), api.OK)
	checkErrno(t, "X, above", g.Check(of("X", buy(1, 1, 9)), 0, 0), api.ErrLimit)
}

func TestG1SetKeepsAllElse(t *testing.T) {
	g := guarded(t, api.Account{Name: "A", Burst: 1, Per: 1000}, api.Account{Name: "B"})
	opened(t, g, buy(1, 10, 5), sell(2, 10, 7))
	traded(t, g, "A", "X", -3)
	checkErrno(t, "it counts", g.Check(buy(3, 1, 1), 0, 500), api.OK)
	checkErrno(t, "Kill", g.Kill("A", true), api.OK)
	checkErrno(t, "Set", g.Set(api.Account{Name: "A", Position: 10, Burst: 1, Per: 1}), api.OK)
	checkLook(t, "open and position", g, "A", "X", 120, -3)
	checkErrno(t, "stopped", g.Check(buy(3, 1, 1), 0, 5000), api.ErrKill)
	checkErrno(t, "Kill", g.Kill("A", false), api.OK)
	checkErrno(t, "the due stays", g.Check(buy(3, 1, 8), 0, 1499), api.ErrRate)
	checkErrno(t, "at its due", g.Check(buy(3, 1, 8), 0, 1500), api.OK)
	checkErrno(t, "a new Per", g.Check(buy(3, 1, 9), 0, 1501), api.ErrLimit)
	checkErrno(t, "wrong limits change nothing", g.Set(api.Account{Name: "A", Position: -1}), api.ErrArg)
	checkErrno(t, "as it was", g.Check(buy(3, 1, 9), 0, 1502), api.ErrLimit)
	checkErrno(t, "no limits", g.Set(api.Account{Name: "A"}), api.OK)
	checkErrno(t, "none", g.Check(buy(3, 1, 9), 0, 0), api.OK)
	checkLook(t, "the other one", g, "B", "X", 0, 0)
}

func TestG2WrongArguments(t *testing.T) {
	right := buy(1, 100, 10)
	type turn func(o *api.Order, mark, now *int64)
	set := func(qty, price int64, side int) turn {
		return func(o *api.Order, _, _ *int64) { o.Qty, o.Price, o.Side = qty, price, side }
	}
	at := func(m, n int64) turn { return func(_ *api.Order, mark, now *int64) { *mark, *now = m, n } }
	for i, c := range []struct {
		turn turn
		want api.Errno
	}{
		{set(1, 0, 1), api.OK},
		{set(1, 1, 2), api.OK},
		{set(api.MaxQty, api.MaxPrice, 1), api.OK},
		{set(0, 100, 1), api.ErrArg},
		{set(-1, 100, 1), api.ErrArg},
		{set(api.MaxQty+1, 100, 1), api.ErrArg},
		{set(math.MaxInt64, 100, 1), api.ErrArg},
		{set(math.MinInt64, 100, 1), api.ErrArg},
		{set(10, -1, 1), api.ErrArg},
		{set(10, api.MaxPrice+1, 1), api.ErrArg},
		{set(10, math.MinInt64, 1), api.ErrArg},
		{set(10, math.MaxInt64, 1), api.ErrArg},
		{set(10, 100, 0), api.ErrArg},
		{set(10, 100, 3), api.ErrArg},
		{set(10, 100, -1), api.ErrArg},
		{set(10, 100, math.MinInt), api.ErrArg},
		{at(0, 0), api.OK},
		{at(api.MaxPrice, api.MaxTime), api.OK},
		{at(-1, 0), api.ErrArg},
		{at(api.MaxPrice+1, 0), api.ErrArg},
		{at(math.MinInt64, 0), api.ErrArg},
		{at(math.MaxInt64, 0), api.ErrArg},
		{at(0, -1), api.ErrArg},
		{at(0, api.MaxTime+1), api.ErrArg},
		{at(0, math.MinInt64), api.ErrArg},
		{at(0, math.MaxInt64), api.ErrArg},
	} {
		o, mark, now := right, int64(100), int64(1000)
		c.turn(&o, &mark, &now)
		checkErrno(t, fmt.Sprint("Check ", i), guarded(t, api.Account{Name: "A"}).Check(o, mark, now), c.want)
		// Also ahead of all other errors.
		if c.want != api.OK {
			checkErrno(t, fmt.Sprint("no account, ", i), guarded(t).Check(o, mark, now), c.want)
			g := guarded(t, api.Account{Name: "A", Order: 1, Burst: 1, Per: 1})
			g.Kill("A", true)
			checkErrno(t, fmt.Sprint("stopped, ", i), g.Check(o, mark, now), c.want)
		}
	}
}

func TestG2OtherFieldsDoNotCount(t *testing.T) {
	g := guarded(t, api.Account{Name: "A", Order: 100, Open: 100, Position: 10})
	o := api.Order{ID: math.MinInt, Name: "?", Account: "A", Symbol: "any text \x00", Side: api.Buy, Type: -5, Life: 99, Price: 10, Stop: -1, Qty: 10, Show: -1, Done: math.MaxInt64, Least: -1, Until: -1, Owner: -1}
	checkErrno(t, "Check", g.Check(o, 0, 0), api.OK)
	o.ID = math.MaxInt
	checkErrno(t, "Open", g.Open(o, 0), api.OK)
	checkLook(t, "Look", g, "A", o.Symbol, 100, 0)
	checkErrno(t, "Done", g.Done(o.ID), api.OK)
}

func TestG2Order(t *testing.T) {
	full := api.Account{Name: "A", Order: 1, Burst: 1, Per: 1000}
	above := buy(1, 2, 1)
	g := guarded(t, full)
	checkErrno(t, "ErrAccount", g.Check(of("B", above), 0, 0), api.ErrAccount)
	checkErrno(t, "no name", g.Check(of("", above), 0, 0), api.ErrAccount)
	checkErrno(t, "a name that may not be", g.Check(of("a", above), 0, 0), api.ErrAccount)
	checkErrno(t, "ErrLimit", g.Check(above, 0, 0), api.ErrLimit)
	checkErrno(t, "ErrRate ahead of ErrLimit", g.Check(above, 0, 0), api.ErrRate)
	g.Kill("A", true)
	checkErrno(t, "ErrKill ahead of ErrRate", g.Check(above, 0, 0), api.ErrKill)
	checkErrno(t, "ErrKill ahead of ErrLimit", g.Check(above, 0, 1000), api.ErrKill)
}

func TestG2Value(t *testing.T) {
	g := guarded(t, api.Account{Name: "A", Order: 1000})
	for _, c := range []struct {
		price, qty, mark int64
		want             api.Errno
	}{
		{1000, 1, 0, api.OK},
		{1001, 1, 0, api.ErrLimit},
		{1, 1000, 0, api.OK},
		{1, 1001, 0, api.ErrLimit},
		{0, 10, 100, api.OK},
		{0, 10, 101, api.ErrLimit},
		{0, api.MaxQty, 0, api.OK},
		{1, 10, api.MaxPrice, api.OK}, // the mark counts only without a price
		{101, 10, 1, api.ErrLimit},
		{api.MaxPrice, api.MaxQty, 0, api.ErrLimit},
		{0, api.MaxQty, api.MaxPrice, api.ErrLimit},
	} {
		for _, o := range []api.Order{buy(1, c.price, c.qty), sell(1, c.price, c.qty)} {
			checkErrno(t, fmt.Sprintf("side %d, %d at %d, mark %d", o.Side, c.qty, c.price, c.mark), g.Check(o, c.mark, 0), c.want)
		}
	}
	const greatest = api.MaxPrice * api.MaxQty
	for _, c := range []struct {
		limit int64
		want  api.Errno
	}{{greatest - 1, api.ErrLimit}, {greatest, api.OK}, {greatest + 1, api.OK}, {most, api.OK}, {1, api.ErrLimit}, {0, api.OK}} {
		g := guarded(t, api.Account{Name: "A", Order: c.limit})
		checkErrno(t, fmt.Sprint("the greatest value, Order ", c.limit), g.Check(buy(1, api.MaxPrice, api.MaxQty), 0, 0), c.want)
	}
}

func TestG2Open(t *testing.T) {
	g := guarded(t, api.Account{Name: "A", Open: 1000}, api.Account{Name: "B", Open: 1000})
	opened(t, g, buy(1, 10, 20), sell(2, 10, 30), in("Y", sell(3, 10, 10))) // 600
	opened(t, g, of("B", buy(4, 10, 100)))
	for _, c := range []struct {
		o    api.Order
		mark int64
		want api.Errno
	}{
		{buy(5, 400, 1), 0, api.OK},
		{buy(5, 401, 1), 0, api.ErrLimit},
		{sell(5, 400, 1), 0, api.OK},
		{sell(5, 401, 1), 0, api.ErrLimit},
		{in("Z", buy(5, 401, 1)), 0, api.ErrLimit},
		{buy(5, 0, 4), 100, api.OK},
		{buy(5, 0, 4), 101, api.ErrLimit},
		{buy(0, 401, 1), 0, api.ErrLimit},
		{buy(-1, 401, 1), 0, api.ErrLimit},
		{buy(1, 600, 1), 0, api.OK}, // in its own place
		{buy(1, 601, 1), 0, api.ErrLimit},
		{sell(2, 700, 1), 0, api.OK},
		{sell(2, 701, 1), 0, api.ErrLimit},
		{in("Z", buy(3, 500, 1)), 0, api.OK}, // whatever it was ahead
		{in("Z", buy(3, 501, 1)), 0, api.ErrLimit},
		{buy(4, 400, 1), 0, api.OK}, // another one's number takes nothing away
		{buy(4, 401, 1), 0, api.ErrLimit},
		{of("B", buy(5, 1, 1)), 0, api.ErrLimit},
		{of("B", buy(5, 0, 1)), 0, api.OK},
		{of("B", buy(4, 1000, 1)), 0, api.OK},
		{of("B", buy(4, 1001, 1)), 0, api.ErrLimit},
	} {
		checkErrno(t, fmt.Sprintf("Check(%+v)", c.o), g.Check(c.o, c.mark, 0), c.want)
	}
	checkErrno(t, "Done", g.Done(2), api.OK)
	checkErrno(t, "one is done", g.Check(buy(5, 700, 1), 0, 0), api.OK)
	checkErrno(t, "above", g.Check(buy(5, 701, 1), 0, 0), api.ErrLimit)
}

func TestG2Position(t *testing.T) {
	g := guarded(t, api.Account{Name: "A", Position: 100}, api.Account{Name: "B", Position: 100})
	opened(t, g, buy(1, 1, 20), buy(2, 9, 5), sell(3, 1, 30), sell(4, 9, 2), in("Y", buy(5, 1, 50)), in("Y", sell(6, 1, 60)), of("B", buy(7, 1, 70)), of("B", sell(8, 1, 80)))
	traded(t, g, "A", "X", -40)
	traded(t, g, "A", "Y", 7)
	traded(t, g, "B", "X", 9)
	for _, c := range []struct {
		name string
		o    api.Order
		most int64 // the greatest Qty that may come
	}{
		{"A buys X", buy(10, 1, 0), 100 + 40 - 25},
		{"A sells X", sell(10, 1, 0), 100 - 40 - 32},
		{"A buys Y", in("Y", buy(10, 1, 0)), 100 - 7 - 50},
		{"A sells Y", in("Y", sell(10, 1, 0)), 100 + 7 - 60},
		{"A buys Z", in("Z", buy(10, 1, 0)), 100},
		{"A sells Z", in("", sell(10, 1, 0)), 100},
		{"B buys X", of("B", buy(10, 1, 0)), 100 - 9 - 70},
		{"B sells X", of("B", sell(10, 1, 0)), 100 + 9 - 80},
		{"B sells Y", of("B", in("Y", sell(10, 1, 0))), 100},
		{"1 is replaced", buy(1, 1, 0), 100 + 40 - 5},
		{"2 is replaced", buy(2, 1, 0), 100 + 40 - 20},
		{"3 is replaced", sell(3, 1, 0), 100 - 40 - 2},
		{"1 is to sell now", sell(1, 1, 0), 100 - 40 - 32},
		{"5 is to be X now", buy(5, 1, 0), 100 + 40 - 25},
		{"B's number", buy(7, 1, 0), 100 + 40 - 25},
		{"no number", buy(0, 1, 0), 100 + 40 - 25},
		{"without a price", buy(10, 0, 0), 100 + 40 - 25},
	} {
		c.o.Qty = c.most
		checkErrno(t, c.name, g.Check(c.o, 5, 0), api.OK)
		c.o.Qty = c.most + 1
		checkErrno(t, c.name+", one more", g.Check(c.o, 5, 0), api.ErrLimit)
	}
}

func TestG2PositionAboveAlready(t *testing.T) {
	g := guarded(t, api.Account{Name: "A", Position: 100})
	traded(t, g, "A", "X", 150)
	checkErrno(t, "a buy", g.Check(buy(1, 1, 1), 0, 0), api.ErrLimit)
	checkErrno(t, "a sell that leads back", g.Check(sell(1, 1, 250), 0, 0), api.OK)
	checkErrno(t, "and beyond", g.Check(sell(1, 1, 251), 0, 0), api.ErrLimit)
	opened(t, g, sell(1, 1, 200))
	checkErrno(t, "open sells are no way to buy", g.Check(buy(2, 1, 1), 0, 0), api.ErrLimit)
}

func TestG2LimitsEachAlone(t *testing.T) {
	for _, c := range []struct {
		a    api.Account
		want [4]api.Errno
	}{
		{api.Account{}, [4]api.Errno{api.OK, api.OK, api.OK, api.OK}},
		{api.Account{Order: 50}, [4]api.Errno{api.OK, api.ErrLimit, api.OK, api.ErrLimit}},
		{api.Account{Open: 150}, [4]api.Errno{api.OK, api.ErrLimit, api.OK, api.ErrLimit}},
		{api.Account{Position: 25}, [4]api.Errno{api.OK, api.OK, api.ErrLimit, api.ErrLimit}},
		{api.Account{Order: 50, Open: 1000, Position: 1000}, [4]api.Errno{api.OK, api.ErrLimit, api.OK, api.ErrLimit}},
		{api.Account{Order: 1000, Open: 150, Position: 1000}, [4]api.Errno{api.OK, api.ErrLimit, api.OK, api.ErrLimit}},
		{api.Account{Order: 1000, Open: 1000, Position: 25}, [4]api.Errno{api.OK, api.OK, api.ErrLimit, api.ErrLimit}},
	} {
		c.a.Name = "A"
		g := guarded(t, c.a)
		opened(t, g, buy(1, 10, 10))
		traded(t, g, "A", "X", 10)
		for i, o := range []api.Order{buy(2, 10, 5), buy(2, 11, 5), buy(2, 1, 6), buy(2, 10, 6)} {
			checkErrno(t, fmt.Sprintf("%+v, order %d", c.a, i), g.Check(o, 0, 0), c.want[i])
		}
	}
}

func TestG2ChecksOpenNothing(t *testing.T) {
	g := guarded(t, api.Account{Name: "A", Open: 100, Position: 100})
	for range 5 {
		checkErrno(t, "Check", g.Check(buy(1, 1, 100), 0, 0), api.OK)
		checkErrno(t, "of another number", g.Check(sell(2, 1, 100), 0, 0), api.OK)
	}
	checkLook(t, "Look", g, "A", "X", 0, 0)
	checkErrno(t, "Done", g.Done(1), api.ErrNone)
}

func TestG2Rate(t *testing.T) {
	type step struct {
		now  int64
		want api.Errno
	}
	const ok, rate = api.OK, api.ErrRate
	for _, c := range []struct {
		burst, per int
		steps      []step
	}{
		{1, 100, []step{{0, ok}, {0, rate}, {99, rate}, {100, ok}, {100, rate}, {199, rate}, {200, ok}, {1000, ok}, {1000, rate}}},
		{1, 1, []step{{5, ok}, {5, rate}, {6, ok}, {6, rate}, {7, ok}}},
		{3, 10, []step{{0, ok}, {0, ok}, {0, ok}, {0, rate}, {9, rate}, {10, ok}, {19, rate}, {20, ok}, {20, rate}, {50, ok}, {50, ok}, {50, ok}, {50, rate}}},
		{3, 10, []step{{0, ok}, {5, ok}, {12, ok}, {12, ok}, {12, rate}, {19, rate}, {20, ok}}},
		{2, 100, []step{{500, ok}, {500, ok}, {0, rate}, {599, rate}, {600, ok}}},                // time that goes back
		{2, 100, []step{{500, ok}, {399, rate}, {400, rate}, {499, rate}, {500, ok}, {0, rate}}}, // also of a first one
		{2, 100, []step{{api.MaxTime, ok}, {api.MaxTime, ok}, {api.MaxTime, rate}}},
		{1000, 86400000, []step{{0, ok}, {0, ok}, {api.MaxTime, ok}, {api.MaxTime, ok}}},
		{1, 86400000, []step{{0, ok}, {86399999, rate}, {86400000, ok}, {172799999, rate}, {172800000, ok}}},
		{0, 100, []step{{0, ok}, {0, ok}, {0, ok}}},
		{5, 0, []step{{0, ok}, {0, ok}, {0, ok}, {0, ok}, {0, ok}, {0, ok}, {0, ok}}},
		{0, 0, []step{{0, ok}, {0, ok}, {0, ok}}},
	} {
		g := guarded(t, api.Account{Name: "A", Burst: c.burst, Per: c.per})
		for i, s := range c.steps {
			checkErrno(t, fmt.Sprintf("%d by %d, step %d at %d", c.burst, c.per, i, s.now), g.Check(buy(1, 1, 1), 0, s.now), s.want)
		}
	}
}

func TestG2RateOfAGreatBurst(t *testing.T) {
	g := guarded(t, api.Account{Name: "A", Burst: 1000, Per: 86400000})
	for i := range 1000 {
		checkErrno(t, fmt.Sprint(i), g.Check(buy(1, 1, 1), 0, 0), api.OK)
	}
	checkErrno(t, "one more", g.Check(buy(1, 1, 1), 0, 86399999), api.ErrRate)
	checkErrno(t, "a day later", g.Check(buy(1, 1, 1), 0, 86400000), api.OK)
	checkErrno(t, "and one more", g.Check(buy(1, 1, 1), 0, 86400000), api.ErrRate)
}

func TestG2WhatCounts(t *testing.T) {
	limits := api.Account{Name: "A", Order: 10, Open: 10, Position: 10, Burst: 1, Per: 100}
	right := buy(1, 1, 1)
	for _, c := range []struct {
		name   string
		do     func(g *Guard) api.Errno
		want   api.Errno
		counts bool
	}{
		{"OK", func(g *Guard) api.Errno { return g.Check(right, 0, 0) }, api.OK, true},
		{"above Order", func(g *Guard) api.Errno { return g.Check(buy(1, 11, 1), 0, 0) }, api.ErrLimit, true},
		{"above Position", func(g *Guard) api.Errno { return g.Check(buy(1, 0, 11), 0, 0) }, api.ErrLimit, true},
		{"wrong", func(g *Guard) api.Errno { return g.Check(buy(1, 1, 0), 0, 0) }, api.ErrArg, false},
		{"a wrong time", func(g *Guard) api.Errno { return g.Check(right, 0, -1) }, api.ErrArg, false},
		{"another account", func(g *Guard) api.Errno { return g.Check(of("B", right), 0, 0) }, api.ErrAccount, false},
		{"stopped", func(g *Guard) api.Errno {
			g.Kill("A", true)
			defer g.Kill("A", false)
			return g.Check(right, 0, 0)
		}, api.ErrKill, false},
		{"Open", func(g *Guard) api.Errno { return g.Open(right, 0) }, api.OK, false},
		{"Done", func(g *Guard) api.Errno { return g.Done(1) }, api.ErrNone, false},
		{"Trade", func(g *Guard) api.Errno { return g.Trade("A", "X", 1) }, api.OK, false},
		{"Set", func(g *Guard) api.Errno { return g.Set(limits) }, api.OK, false},
		{"Look", func(g *Guard) api.Errno { _, _, e := g.Look("A", "X"); return e }, api.OK, false},
	} {
		g := guarded(t, limits)
		checkErrno(t, c.name, c.do(g), c.want)
		want := api.OK
		if c.counts {
			want = api.ErrRate
		}
		checkErrno(t, c.name+", then", g.Check(right, 0, 0), want)
	}
}

func TestG2ARefusedCommandDoesNotCount(t *testing.T) {
	g := guarded(t, api.Account{Name: "A", Burst: 1, Per: 100})
	checkErrno(t, "the first", g.Check(buy(1, 1, 1), 0, 0), api.OK)
	for now := range int64(100) {
		checkErrno(t, fmt.Sprint("at ", now), g.Check(buy(1, 1, 1), 0, now), api.ErrRate)
	}
	checkErrno(t, "at its due", g.Check(buy(1, 1, 1), 0, 100), api.OK)
}

func TestG2WithoutARateTheDueStays(t *testing.T) {
	rated := api.Account{Name: "A", Burst: 1, Per: 1000}
	for _, without := range []api.Account{{Name: "A"}, {Name: "A", Burst: 5}, {Name: "A", Per: 5}} {
		g := guarded(t, rated)
		checkErrno(t, "it counts", g.Check(buy(1, 1, 1), 0, 0), api.OK)
		checkErrno(t, "Set", g.Set(without), api.OK)
		for range 20 {
			checkErrno(t, "none counts", g.Check(buy(1, 1, 1), 0, 5000), api.OK)
		}
		checkErrno(t, "Set", g.Set(rated), api.OK)
		checkErrno(t, "as it was", g.Check(buy(1, 1, 1), 0, 999), api.ErrRate)
		checkErrno(t, "at its due", g.Check(buy(1, 1, 1), 0, 1000), api.OK)
	}
}

func TestG2RatesStandAlone(t *testing.T) {
	g := guarded(t, api.Account{Name: "A", Burst: 1, Per: 100}, api.Account{Name: "B", Burst: 1, Per: 100})
	checkErrno(t, "A", g.Check(buy(1, 1, 1), 0, 0), api.OK)
	checkErrno(t, "A once more", g.Check(buy(1, 1, 1), 0, 0), api.ErrRate)
	checkErrno(t, "B", g.Check(of("B", buy(1, 1, 1)), 0, 0), api.OK)
	checkErrno(t, "B once more", g.Check(of("B", in("Y", sell(2, 1, 1))), 0, 0), api.ErrRate)
}

func TestG3WrongArguments(t *testing.T) {
	for i, c := range []struct {
		o    api.Order
		mark int64
		want api.Errno
	}{
		{buy(1, 0, 1), 0, api.OK},
		{sell(math.MaxInt, api.MaxPrice, api.MaxQty), api.MaxPrice, api.OK},
		{buy(0, 1, 1), 0, api.ErrArg},
		{buy(-1, 1, 1), 0, api.ErrArg},
		{buy(math.MinInt, 1, 1), 0, api.ErrArg},
		{buy(1, 1, 0), 0, api.ErrArg},
		{buy(1, 1, -1), 0, api.ErrArg},
		{buy(1, 1, api.MaxQty+1), 0, api.ErrArg},
		{buy(1, 1, math.MaxInt64), 0, api.ErrArg},
		{buy(1, -1, 1), 0, api.ErrArg},
		{buy(1, api.MaxPrice+1, 1), 0, api.ErrArg},
		{buy(1, 1, 1), -1, api.ErrArg},
		{buy(1, 1, 1), api.MaxPrice + 1, api.ErrArg},
		{api.Order{ID: 1, Account: "A", Qty: 1}, 0, api.ErrArg},
		{api.Order{ID: 1, Account: "A", Qty: 1, Side: 3}, 0, api.ErrArg},
		{of("B", buy(0, 1, 1)), 0, api.ErrArg},
		{of("B", buy(1, 1, 1)), -1, api.ErrArg},
		{of("B", buy(1, 1, 1)), 0, api.ErrAccount},
		{of("", buy(1, 1, 1)), 0, api.ErrAccount},
	} {
		g := guarded(t, api.Account{Name: "A"})
		checkErrno(t, fmt.Sprint("Open ", i), g.Open(c.o, c.mark), c.want)
		done := api.OK
		if c.want != api.OK {
			done = api.ErrNone
			checkLook(t, "nothing is open", g, "A", "X", 0, 0)
		}
		checkErrno(t, fmt.Sprint("Done ", i), g.Done(c.o.ID), done)
	}
}

func TestG3OpenAndDone(t *testing.T) {
	g := guarded(t, api.Account{Name: "A"}, api.Account{Name: "B"})
	checkErrno(t, "at the mark", g.Open(buy(7, 0, 10), 12), api.OK)
	checkLook(t, "at the mark", g, "A", "X", 120, 0)
	checkErrno(t, "at its price", g.Open(sell(8, 3, 10), 12), api.OK)
	checkLook(t, "of both sides", g, "A", "Y", 150, 0)
	checkErrno(t, "once more", g.Open(in("Y", sell(7, 4, 5)), 12), api.OK)
	checkLook(t, "it stands in its own place", g, "A", "X", 50, 0)
	checkErrno(t, "B", g.Open(of("B", buy(9, 1, 1)), 0), api.OK)
	checkErrno(t, "a number of A's", g.Open(of("B", buy(7, 1, 1)), 0), api.ErrKnown)
	checkErrno(t, "a number of B's", g.Open(buy(9, 1, 1), 0), api.ErrKnown)
	checkLook(t, "A", g, "A", "X", 50, 0)
	checkLook(t, "B", g, "B", "X", 1, 0)
	for _, id := range []int{0, 1, -7, 6, 10, math.MaxInt, math.MinInt} {
		checkErrno(t, fmt.Sprint("Done of ", id), g.Done(id), api.ErrNone)
	}
	checkErrno(t, "Done", g.Done(7), api.OK)
	checkErrno(t, "Done once more", g.Done(7), api.ErrNone)
	checkLook(t, "one is left", g, "A", "X", 30, 0)
	checkErrno(t, "B may have the number now", g.Open(of("B", buy(7, 1, 1)), 0), api.OK)
	checkErrno(t, "and A not", g.Open(buy(7, 1, 1), 0), api.ErrKnown)
	checkErrno(t, "Done", g.Done(8), api.OK)
	checkLook(t, "nothing", g, "A", "X", 0, 0)
	checkLook(t, "B", g, "B", "X", 2, 0)
}

func TestG3ItsSideAndSymbolAreThoseOfTheLastOpen(t *testing.T) {
	g := guarded(t, api.Account{Name: "A", Position: 10})
	opened(t, g, buy(1, 1, 10))
	checkErrno(t, "a buy", g.Check(buy(2, 1, 1), 0, 0), api.ErrLimit)
	checkErrno(t, "a sell", g.Check(sell(2, 1, 10), 0, 0), api.OK)
	opened(t, g, sell(1, 1, 4))
	checkErrno(t, "a buy, then", g.Check(buy(2, 1, 10), 0, 0), api.OK)
	checkErrno(t, "a sell, then", g.Check(sell(2, 1, 7), 0, 0), api.ErrLimit)
	checkErrno(t, "a lesser sell", g.Check(sell(2, 1, 6), 0, 0), api.OK)
	opened(t, g, in("Y", sell(1, 1, 9)))
	checkErrno(t, "a sell of X", g.Check(sell(2, 1, 10), 0, 0), api.OK)
	checkErrno(t, "a sell of Y", g.Check(in("Y", sell(2, 1, 2)), 0, 0), api.ErrLimit)
	checkErrno(t, "Done", g.Done(1), api.OK)
	checkErrno(t, "nothing is open", g.Check(in("Y", sell(2, 1, 10)), 0, 0), api.OK)
}

func TestG3AlsoOfOneThatIsStoppedAndAboveLimits(t *testing.T) {
	g := guarded(t, api.Account{Name: "A", Order: 1, Open: 1, Position: 1, Burst: 1, Per: 1000})
	g.Kill("A", true)
	checkErrno(t, "Open", g.Open(buy(1, 100, 100), 0), api.OK)
	checkErrno(t, "Open of another", g.Open(buy(2, 100, 100), 0), api.OK)
	checkLook(t, "Look", g, "A", "X", 20000, 0)
	checkErrno(t, "Trade", g.Trade("A", "X", 1000), api.OK)
	checkErrno(t, "Done", g.Done(1), api.OK)
	checkLook(t, "Look", g, "A", "X", 10000, 1000)
}

func TestG4Trade(t *testing.T) {
	g := guarded(t, api.Account{Name: "A"}, api.Account{Name: "B"})
	for _, c := range []struct {
		account string
		qty     int64
		want    api.Errno
	}{
		{"A", 0, api.ErrArg},
		{"A", api.MaxQty + 1, api.ErrArg},
		{"A", -api.MaxQty - 1, api.ErrArg},
		{"A", math.MaxInt64, api.ErrArg},
		{"A", math.MinInt64, api.ErrArg},
		{"C", 0, api.ErrAccount},
		{"C", 1, api.ErrAccount},
		{"", 1, api.ErrAccount},
		{"a", math.MinInt64, api.ErrAccount},
	} {
		checkErrno(t, fmt.Sprintf("Trade(%q, %d)", c.account, c.qty), g.Trade(c.account, "X", c.qty), c.want)
	}
	checkLook(t, "nothing", g, "A", "X", 0, 0)
	for _, c := range []struct {
		account, symbol string
		qty, want       int64
	}{
		{"A", "X", 1, 1},
		{"A", "X", -1, 0},
		{"A", "X", -1, -1},
		{"A", "X", api.MaxQty, api.MaxQty - 1},
		{"A", "X", api.MaxQty, 2*api.MaxQty - 1},
		{"A", "", 5, 5},
		{"A", "any text, \x00\xff", -api.MaxQty, -api.MaxQty},
		{"A", strings.Repeat("x", 100000), 3, 3},
		{"B", "X", -4, -4},
		{"A", "X", -api.MaxQty, api.MaxQty - 1},
		{"A", "x", 2, 2},
	} {
		checkErrno(t, "Trade", g.Trade(c.account, c.symbol, c.qty), api.OK)
		checkLook(t, "Look", g, c.account, c.symbol, 0, c.want)
	}
	checkLook(t, "in another", g, "B", "", 0, 0)
}

func TestG4KeepsNoPositionOfNothing(t *testing.T) {
	g := guarded(t, api.Account{Name: "A"})
	for i := range 100 {
		traded(t, g, "A", fmt.Sprint(i), 5)
		traded(t, g, "A", fmt.Sprint(i), -5)
	}
	if n := len(g.accounts["A"].positions); n != 0 {
		t.Errorf("%d positions are kept", n)
	}
}

func TestG4TradesCloseNothing(t *testing.T) {
	g := guarded(t, api.Account{Name: "A"})
	opened(t, g, buy(1, 10, 10))
	traded(t, g, "A", "X", 10)
	checkLook(t, "it is open till it is said to be done", g, "A", "X", 100, 10)
}

func TestG5Kill(t *testing.T) {
	g := guarded(t, api.Account{Name: "A"}, api.Account{Name: "B"})
	checkErrno(t, "no account", g.Kill("C", true), api.ErrAccount)
	checkErrno(t, "no account, off", g.Kill("", false), api.ErrAccount)
	for _, on := range []bool{false, true, true, false, false, true} {
		checkErrno(t, "Kill", g.Kill("A", on), api.OK)
		want := api.OK
		if on {
			want = api.ErrKill
		}
		checkErrno(t, fmt.Sprint("A, ", on), g.Check(buy(1, 1, 1), 0, 0), want)
		checkErrno(t, "B", g.Check(of("B", buy(1, 1, 1)), 0, 0), api.OK)
	}
}

func TestG6Look(t *testing.T) {
	g := guarded(t, api.Account{Name: "A"}, api.Account{Name: "B"})
	opened(t, g, buy(1, 10, 10), sell(2, 20, 10), in("Y", buy(3, 30, 10)), of("B", buy(4, 40, 10)))
	traded(t, g, "A", "X", 5)
	traded(t, g, "A", "Y", -6)
	checkLook(t, "A, X", g, "A", "X", 600, 5)
	checkLook(t, "A, Y", g, "A", "Y", 600, -6)
	checkLook(t, "A, Z", g, "A", "Z", 600, 0)
	checkLook(t, "B, X", g, "B", "X", 400, 0)
	for _, name := range []string{"C", "", "a", "AA", "A\x00", strings.Repeat("A", 1000)} {
		if open, position, e := g.Look(name, "X"); open != 0 || position != 0 || e != api.ErrAccount {
			t.Errorf("Look(%q): %d, %d, %d", name, open, position, e)
		}
	}
}

// TestAmountsEnd has more open than the greatest amount: what is told stays there, and is right again as soon as less is open.
func TestAmountsEnd(t *testing.T) {
	g := guarded(t, api.Account{Name: "A", Open: most - 1}, api.Account{Name: "B", Open: most})
	greatest := buy(0, api.MaxPrice, api.MaxQty) // 10^15
	for id := 1; id <= 1003; id++ {
		greatest.ID = id
		opened(t, g, greatest)
		checkLook(t, fmt.Sprint(id), g, "A", "X", min(int64(id), 1000)*(most/1000), 0)
	}
	checkErrno(t, "one more", g.Check(buy(2000, 1, 1), 0, 0), api.ErrLimit)
	checkErrno(t, "in its own place", g.Check(buy(1, 1, 1), 0, 0), api.ErrLimit)
	for id := 1; id <= 1003; id++ {
		checkErrno(t, "Done", g.Done(id), api.OK)
		checkLook(t, fmt.Sprint("without ", id), g, "A", "X", min(int64(1003-id), 1000)*(most/1000), 0)
	}
	for id := 1; id <= 1003; id++ {
		greatest.ID = id
		checkErrno(t, "what is at most 10^18 is not above it", g.Check(of("B", greatest), 0, 0), api.OK)
		opened(t, g, of("B", greatest))
	}
}

func TestSum(t *testing.T) {
	for _, c := range [][3]int64{
		{0, 0, 0}, {1, 2, 3}, {-1, -2, -3}, {5, -7, -2},
		{most, 0, most}, {most, 1, most}, {most, most, most}, {most - 1, 1, most}, {most - 1, 2, most}, {most, -1, most - 1},
		{-most, 0, -most}, {-most, -1, -most}, {-most, -most, -most}, {-most + 1, -1, -most}, {-most, 1, -most + 1}, {most, -most, 0},
	} {
		if a, b := sum(c[0], c[1]), sum(c[1], c[0]); a != c[2] || b != c[2] {
			t.Errorf("sum(%d, %d): %d, %d, want %d", c[0], c[1], a, b, c[2])
		}
	}
}

// TestGuardsStandAlone has many at once: what one is told changes nothing for another one.
func TestGuardsStandAlone(t *testing.T) {
	var all sync.WaitGroup
	l := []api.Account{{Name: "A", Order: 1000, Open: 5000, Position: 300, Burst: 3, Per: 10}}
	for n := range 16 {
		all.Go(func() {
			g, _ := New(l)
			for i := 1; i <= 200; i++ {
				o := buy(i, int64(n+1), 1)
				if e := g.Check(o, 0, int64(10*i)); e != api.OK {
					t.Errorf("guard %d, step %d: %d", n, i, e)
				}
				g.Open(o, 0)
				if i > 5 {
					g.Done(i - 5)
					g.Trade("A", "X", 1)
				}
				if open, position, _ := g.Look("A", "X"); open != int64(min(i, 5)*(n+1)) || position != int64(max(i-5, 0)) {
					t.Errorf("guard %d, step %d: %d, %d", n, i, open, position)
				}
			}
		})
	}
	all.Wait()
}

// TestAnyArguments goes through wild numbers and texts: nothing panics, and what is refused changes nothing.
func TestAnyArguments(t *testing.T) {
	numbers := []int64{math.MinInt64, -most, -api.MaxQty, -1, 0, 1, 2, 3, api.MaxQty, api.MaxPrice, api.MaxTime, most, math.MaxInt64}
	texts := []string{"A", "B", "", "X", "\xff", strings.Repeat("A", 300)}
	g := guarded(t, api.Account{Name: "A"}, api.Account{Name: "B", Order: 5, Open: 5, Position: 5, Burst: 1, Per: 1})
	for i, n := range numbers {
		for _, m := range numbers {
			for _, x := range texts {
				for _, side := range []int{math.MinInt, 0, 1, 2, 3} {
					o := api.Order{ID: int(m), Account: x, Symbol: x, Side: side, Price: n, Qty: m}
					open, position, _ := g.Look(x, x)
					for _, mark := range numbers {
						g.Check(o, mark, numbers[len(numbers)-1-i])
					}
					e := g.Open(o, n)
					f := g.Trade(x, x, n)
					newOpen, newPosition, _ := g.Look(x, x)
					if e != api.OK && newOpen != open || f != api.OK && newPosition != position {
						t.Fatalf("%+v: %d, %d, but %d, %d and %d, %d", o, e, f, open, newOpen, position, newPosition)
					}
				}
				g.Kill(x, n > 0)
			}
			g.Done(int(n))
			g.Set(api.Account{Name: "B", Order: n, Open: m, Position: n, Burst: int(m), Per: int(n)})
		}
	}
}
