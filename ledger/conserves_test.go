package ledger

import (
	"fmt"
	"math/rand"
	"testing"

	"outcry/api"
	"outcry/clock"
	"outcry/engine"
	"outcry/listing"
)

// P10 of DOC.md: what an engine tells is booked as the exchange books it, and held against what each account was told of its own orders.

const (
	aMinute = 60000
	aDay    = 1440 * aMinute
	monday  = 1709510400000 // 20240304
)

var traders = []string{"A1", "A2", "A3"}

// floor is an engine with a ledger, and what the accounts were told.
type floor struct {
	t        *testing.T
	e        *engine.Engine
	l        *Ledger
	listings map[string]*listing.Listing
	told     map[[2]string]api.Booking // by account and symbol
	today    map[[2]string]api.Booking
	trades   int
	auctions int
}

func instrument(symbol string, maker, taker int) api.Instrument {
	return api.Instrument{
		Symbol: symbol, Lot: 1, Most: api.MaxQty, Steps: []api.Step{{From: 0, Tick: 1}}, Reference: 1000, Maker: maker, Taker: taker,
		Turns: []api.Turn{{Minute: 480, Phase: api.PreOpen}, {Minute: 540, Phase: api.Trading}, {Minute: 1000, Phase: api.Closing}, {Minute: 1010, Phase: api.Closed}},
	}
}

func newFloor(t *testing.T, list ...api.Instrument) *floor {
	t.Helper()
	c, e := clock.NewCalendar()
	checkErrno(t, "NewCalendar", e, api.OK)
	f := &floor{t: t, l: New(), listings: map[string]*listing.Listing{}, told: map[[2]string]api.Booking{}, today: map[[2]string]api.Booking{}}
	for _, i := range list {
		f.listings[i.Symbol], e = listing.New(i, c)
		checkErrno(t, "listing.New", e, api.OK)
	}
	var accounts []api.Account
	for _, name := range traders {
		accounts = append(accounts, api.Account{Name: name})
	}
	f.e, e = engine.New(list, accounts, c)
	checkErrno(t, "engine.New", e, api.OK)
	return f
}

func (f *floor) does(c api.Command) {
	f.t.Helper()
	events := f.e.Do(c)
	for i, x := range events {
		if x.Kind == api.EvAuction {
			f.auctions++
		}
		if x.Kind != api.EvTrade {
			continue
		}
		f.hears(x)
		if x.Side == api.Buy {
			f.books(x, events[i+1])
		}
	}
}

func (f *floor) books(buy, sell api.Event) {
	f.t.Helper()
	f.trades++
	e := f.l.Trade(buy.Symbol, buy.O.Account, sell.O.Account, buy.F.Price, buy.F.Qty, f.fee(buy), f.fee(sell))
	checkErrno(f.t, "Trade", e, api.OK)
}

func (f *floor) fee(x api.Event) int64 {
	return f.listings[x.Symbol].Fee(x.F.Price*x.F.Qty, x.F.Taker == x.Side)
}

// hears takes in what one side of a trade is told.
func (f *floor) hears(x api.Event) {
	b := api.Booking{Qty: x.F.Qty, Cash: -x.F.Price * x.F.Qty, Fee: f.fee(x)}
	if x.Side == api.Sell {
		b.Qty, b.Cash = -b.Qty, -b.Cash
	}
	for _, sums := range []map[[2]string]api.Booking{f.told, f.today} {
		k := [2]string{x.O.Account, x.Symbol}
		s := sums[k]
		sums[k] = api.Booking{Account: x.O.Account, Symbol: x.Symbol, Qty: s.Qty + b.Qty, Cash: s.Cash + b.Cash, Fee: s.Fee + b.Fee}
	}
}

// holds: each account has what it was told, and all of it sums up to 0.
func (f *floor) holds() {
	f.t.Helper()
	var paid int64
	for _, account := range traders {
		var money, fees int64
		for symbol := range f.listings {
			b := f.told[[2]string{account, symbol}]
			checkBalance(f.t, f.l, account, symbol, b.Qty, b.Cash)
			money += b.Cash - b.Fee
			fees += b.Fee
		}
		checkCash(f.t, f.l, account, money, fees)
		paid += fees
	}
	checkCash(f.t, f.l, "", paid, -paid)
	for symbol := range f.listings {
		checkBalance(f.t, f.l, "", symbol, 0, 0)
	}
	checkZeroSum(f.t, f.l, f.l.Net(), append([]string{""}, traders...)...)
}

// closes ends a day, of which each account gets what it was told in it.
func (f *floor) closes() {
	f.t.Helper()
	for _, b := range f.l.Close() {
		if want := f.today[[2]string{b.Account, b.Symbol}]; b.Account != "" && b != want {
			f.t.Errorf("Close: %+v, want %+v", b, want)
		}
		if b.Account != "" {
			delete(f.today, [2]string{b.Account, b.Symbol})
		}
	}
	for k, b := range f.today {
		if b.Qty != 0 || b.Cash != 0 || b.Fee != 0 {
			f.t.Errorf("Close: nothing of %v: %+v", k, b)
		}
	}
	clear(f.today)
	f.holds()
}

// TestP10TheDocumentsExample: of what DOC.md's examples trade.
func TestP10TheDocumentsExample(t *testing.T) {
	f := newFloor(t, instrument("ABC", -100, 200))
	at := int64(monday + 550*aMinute)
	f.does(api.Command{Kind: api.DoTime, Time: at})
	f.does(api.Command{Kind: api.DoNew, Time: at, Owner: 1, O: api.Order{Name: "s", Account: "A1", Symbol: "ABC", Side: api.Sell, Type: api.Limit, Life: api.Day, Price: 1000, Qty: 10}})
	f.does(api.Command{Kind: api.DoNew, Time: at, Owner: 2, O: api.Order{Name: "b", Account: "A2", Symbol: "ABC", Side: api.Buy, Type: api.Limit, Life: api.Day, Price: 1001, Qty: 4}})
	f.holds()
	checkBalance(t, f.l, "A1", "ABC", -4, 4000)
	checkCash(t, f.l, "A1", 4001, -1)
	checkBalance(t, f.l, "A2", "ABC", 4, -4000)
	checkCash(t, f.l, "A2", -4000, 0)
	checkBalance(t, f.l, "", "ABC", 0, 0)
	checkCash(t, f.l, "", -1, 1)
	checkList(t, "Close", f.l.Close(), api.Booking{Symbol: "ABC", Fee: 1}, api.Booking{Account: "A1", Symbol: "ABC", Qty: -4, Cash: 4000, Fee: -1}, api.Booking{Account: "A2", Symbol: "ABC", Qty: 4, Cash: -4000})
	checkList(t, "Close once more", f.l.Close())
}

// TestP10RandomDays has accounts trade over days, in auctions and between them.
func TestP10RandomDays(t *testing.T) {
	trades, auctions := 0, 0
	for seed := range 30 {
		r := rand.New(rand.NewSource(int64(seed)))
		f := newFloor(t, instrument("ABC", -100, 200), instrument("XY", 20, 30))
		for n, at := 0, int64(monday+485*aMinute); n < 300; n++ {
			o := api.Order{Name: fmt.Sprint("o", n), Account: traders[r.Intn(3)], Symbol: []string{"ABC", "XY"}[r.Intn(2)], Side: 1 + r.Intn(2), Type: api.Limit, Life: []int{api.Day, api.GTC, api.IOC}[r.Intn(3)], Price: 990 + r.Int63n(20), Qty: 1 + r.Int63n(5000)}
			f.does(api.Command{Kind: api.DoNew, Time: at, Owner: 1 + r.Intn(2), O: o})
			f.holds()
			was := at
			at += r.Int63n(5 * aMinute)
			if at%aDay > 1015*aMinute || r.Intn(60) == 0 {
				at += aDay - at%aDay + 485*aMinute
				f.does(api.Command{Kind: api.DoTime, Time: was - was%aDay + 1015*aMinute})
				f.closes()
			}
		}
		f.closes()
		trades += f.trades
		auctions += f.auctions
	}
	if trades < 1000 || auctions < 50 {
		t.Errorf("only %d trades and %d auctions", trades, auctions)
	}
}
