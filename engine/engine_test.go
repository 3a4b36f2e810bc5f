package engine

import (
	"fmt"
	"math"
	"slices"
	"strings"
	"testing"

	"outcry/api"
	"outcry/clock"
)

const (
	minute    = 60000
	hour      = 60 * minute
	day       = 24 * hour
	wednesday = 1704240000000 // 20240103

	preOpen = wednesday + 8*hour
	trading = wednesday + 9*hour
	closing = wednesday + 16*hour + 40*minute
	closed  = wednesday + 16*hour + 50*minute
)

// abc is the instrument of the chapter's examples.
func abc() api.Instrument {
	return api.Instrument{
		Symbol: "ABC", Lot: 1, Most: api.MaxQty, Steps: []api.Step{{From: 0, Tick: 1}}, Reference: 100,
		Turns: turns(480, api.PreOpen, 540, api.Trading, 1000, api.Closing, 1010, api.Closed),
	}
}

// other is one that opens and closes with it, with lots, ticks and a band.
func other() api.Instrument {
	return api.Instrument{
		Symbol: "XY", Lot: 10, Most: 500, Steps: []api.Step{{From: 0, Tick: 5}}, Band: 1000, Reference: 100,
		Turns: turns(480, api.PreOpen, 540, api.Trading, 1000, api.Closed),
	}
}

func turns(l ...int) []api.Turn {
	var all []api.Turn
	for n := 0; n < len(l); n += 2 {
		all = append(all, api.Turn{Minute: l[n], Phase: l[n+1]})
	}
	return all
}

func newCalendar(t *testing.T, holidays ...int) *clock.Calendar {
	t.Helper()
	c, err := clock.NewCalendar(holidays...)
	if err != api.OK {
		t.Fatalf("NewCalendar: %d", err)
	}
	return c
}

// world is an engine, and the time of the next command.
type world struct {
	t  *testing.T
	e  *Engine
	at int64
}

// listedWorld is one of instruments, at a time.
func listedWorld(t *testing.T, at int64, l []api.Instrument, accounts ...api.Account) *world {
	t.Helper()
	if len(accounts) == 0 {
		accounts = []api.Account{{Name: "A"}, {Name: "B"}, {Name: "C"}}
	}
	e, err := New(l, accounts, newCalendar(t))
	if err != api.OK {
		t.Fatalf("New: %d", err)
	}
	e.Do(api.Command{Kind: api.DoTime, Time: at})
	return &world{t, e, at}
}

// start is a world of abc alone.
func start(t *testing.T, at int64, accounts ...api.Account) *world {
	t.Helper()
	return listedWorld(t, at, []api.Instrument{abc()}, accounts...)
}

// startBoth is a world of abc and other.
func startBoth(t *testing.T, at int64, accounts ...api.Account) *world {
	t.Helper()
	return listedWorld(t, at, []api.Instrument{abc(), other()}, accounts...)
}

// does does a command, at the time that it is, and holds what is told against words, event by event.
func (w *world) does(c api.Command, want ...string) {
	w.t.Helper()
	c.Time = w.at
	var got []string
	for _, x := range w.e.Do(c) {
		checkForm(w.t, x)
		got = append(got, words(x))
	}
	if !slices.Equal(got, want) {
		w.t.Errorf("%+v:\n got %q\nwant %q", c, got, want)
	}
}

// tells does a command, and holds what is told against whole events.
func (w *world) tells(c api.Command, want ...api.Event) {
	w.t.Helper()
	c.Time = w.at
	if got := w.e.Do(c); !slices.Equal(got, want) {
		w.t.Errorf("%+v:\n got\n%swant\n%s", c, lines(got), lines(want))
	}
}

// goes lets time go on to another one.
func (w *world) goes(to int64, want ...string) {
	w.t.Helper()
	w.at = to
	w.does(api.Command{Kind: api.DoTime}, want...)
}

func lines(l []api.Event) string {
	s := ""
	for _, x := range l {
		s += fmt.Sprintf("  %+v\n", x)
	}
	return s
}

var sides = []string{"nothing", "buy", "sell"}

// words tells an event. Fields that are not among the words are held by checkForm.
func words(x api.Event) string {
	o := fmt.Sprintf("%s %d/%s#%d %d@%d", x.Symbol, x.Owner, x.Name, x.O.ID, x.O.Qty, x.O.Price)
	switch x.Kind {
	case api.EvAccepted:
		return fmt.Sprintf("accepted %s", o)
	case api.EvRejected:
		return fmt.Sprintf("refused %s %d/%s by %d", x.Symbol, x.Owner, x.Name, int(x.Err))
	case api.EvTrade:
		return fmt.Sprintf("traded %s: %s %d@%d", o, sides[x.Side], x.F.Qty, x.F.Price)
	case api.EvCancelled:
		if x.Err != api.OK {
			o += fmt.Sprint(" by ", int(x.Err))
		}
		return "cancelled " + o
	case api.EvReplaced:
		return "replaced " + o
	case api.EvTriggered:
		return "triggered " + o
	case api.EvExpired:
		return "expired " + o
	case api.EvPhase:
		return x.Symbol + " " + []string{"Closed", "PreOpen", "Opening", "Trading", "Halted", "Closing"}[x.Phase]
	case api.EvLevel:
		return fmt.Sprintf("%s %s %d: %d of %d", x.Symbol, sides[x.Side], x.Level.Price, x.Level.Qty, x.Level.Orders)
	case api.EvAuction:
		return fmt.Sprintf("%s auction %d@%d, over %d %s", x.Symbol, x.Level.Qty, x.Level.Price, x.F.Qty, sides[x.Side])
	}
	return fmt.Sprintf("mass %s %d/%s: %d", x.Symbol, x.Owner, x.Name, x.Count)
}

// checkForm holds that an event has the fields of its kind, and that all others are zero.
func checkForm(t *testing.T, x api.Event) {
	t.Helper()
	y := api.Event{Kind: x.Kind, Symbol: x.Symbol}
	switch x.Kind {
	case api.EvPhase:
		y.Phase = x.Phase
	case api.EvLevel:
		y.Side, y.Level = x.Side, x.Level
	case api.EvAuction:
		y.Side, y.Level, y.F = x.Side, api.Level{Price: x.Level.Price, Qty: x.Level.Qty}, api.Fill{Qty: x.F.Qty}
	case api.EvMass:
		y.Owner, y.Name, y.O, y.Count = x.Owner, x.Name, x.O, x.Count
	case api.EvRejected:
		y.Owner, y.Name, y.O, y.Err, y.Side = x.Owner, x.Name, x.O, x.Err, x.Side
	default:
		y.O, y.Symbol, y.Owner, y.Name, y.Side = x.O, x.O.Symbol, x.O.Owner, x.O.Name, x.O.Side
		switch x.Kind {
		case api.EvTrade:
			y.F = x.F
		case api.EvCancelled:
			y.Err = x.Err
		}
	}
	if x != y {
		t.Errorf("fields that are not to be: %+v, want %+v", x, y)
	}
}

// order is a new one, of ABC: a limit order for the day; a sell, if qty is below 0.
func order(owner int, name, account string, qty, price int64, changes ...func(o *api.Order)) api.Command {
	o := api.Order{Name: name, Account: account, Symbol: "ABC", Side: api.Buy, Type: api.Limit, Life: api.Day, Qty: qty, Price: price}
	if qty < 0 {
		o.Side, o.Qty = api.Sell, -qty
	}
	for _, change := range changes {
		change(&o)
	}
	return api.Command{Kind: api.DoNew, Owner: owner, O: o}
}

func life(l int) func(o *api.Order) { return func(o *api.Order) { o.Life = l } }

func until(date int) func(o *api.Order) {
	return func(o *api.Order) { o.Life, o.Until = api.GTD, date }
}

func show(qty int64) func(o *api.Order) { return func(o *api.Order) { o.Show = qty } }

func least(qty int64) func(o *api.Order) { return func(o *api.Order) { o.Least = qty } }

func symbol(s string) func(o *api.Order) { return func(o *api.Order) { o.Symbol = s } }

func market(l int) func(o *api.Order) {
	return func(o *api.Order) { o.Type, o.Life, o.Price = api.Market, l, 0 }
}

// stop makes a Stop of what has no price, else a StopLimit.
func stop(price int64) func(o *api.Order) {
	return func(o *api.Order) {
		o.Type, o.Stop = api.StopLimit, price
		if o.Price == 0 {
			o.Type = api.Stop
		}
	}
}

func cancel(owner int, name string) api.Command {
	return api.Command{Kind: api.DoCancel, Owner: owner, Name: name}
}

func replace(owner int, name, to string, qty, price int64, changes ...func(o *api.Order)) api.Command {
	c := api.Command{Kind: api.DoReplace, Owner: owner, Name: name, O: api.Order{Name: to, Qty: qty, Price: price}}
	for _, change := range changes {
		change(&c.O)
	}
	return c
}

func halt(s string) api.Command {
	return api.Command{Kind: api.DoHalt, O: api.Order{Symbol: s}}
}

func resume(s string) api.Command {
	return api.Command{Kind: api.DoResume, O: api.Order{Symbol: s}}
}

// of is an event of the order that a command brings, with a number.
func of(kind, id int, c api.Command) api.Event {
	o := c.O
	o.ID, o.Owner, o.Done = id, c.Owner, 0
	return api.Event{Kind: kind, Symbol: o.Symbol, Owner: o.Owner, Name: o.Name, O: o, Side: o.Side}
}

// after is an event of an order that has traded so much more.
func after(x api.Event, done int64) api.Event {
	x.O.Qty -= done
	x.O.Done += done
	return x
}

// traded is the two events of a trade, of orders as they are behind it.
func traded(buy, sell api.Event, taker int, price, qty int64) []api.Event {
	f := api.Fill{Buy: buy.O.ID, Sell: sell.O.ID, Taker: taker, Price: price, Qty: qty}
	buy.Kind, sell.Kind, buy.F, sell.F = api.EvTrade, api.EvTrade, f, f
	return []api.Event{buy, sell}
}

func level(side int, price, qty int64, orders int) api.Event {
	return api.Event{Kind: api.EvLevel, Symbol: "ABC", Side: side, Level: api.Level{Price: price, Qty: qty, Orders: orders}}
}

func phase(p int) api.Event { return api.Event{Kind: api.EvPhase, Symbol: "ABC", Phase: p} }

// checkGuard holds what is open of an account, and its position in ABC.
func (w *world) checkGuard(account string, open, position int64) {
	w.t.Helper()
	if o, p, err := w.e.guard.Look(account, "ABC"); o != open || p != position || err != api.OK {
		w.t.Errorf("%s: open %d, position %d, error %d, want %d, %d", account, o, p, err, open, position)
	}
}

// checkOrder holds an order that lives.
func (w *world) checkOrder(owner int, name string, want api.Order) {
	w.t.Helper()
	if got, err := w.e.Order(owner, name); got != want || err != api.OK {
		w.t.Errorf("order %d/%s: %+v, %d, want %+v", owner, name, got, err, want)
	}
}

// checkOver holds that no order lives with a name.
func (w *world) checkOver(owner int, name string) {
	w.t.Helper()
	if got, err := w.e.Order(owner, name); got != (api.Order{}) || err != api.ErrNone {
		w.t.Errorf("order %d/%s: %+v, %d, want none", owner, name, got, err)
	}
}

func (w *world) checkPhase(symbol string, phase int, reference int64) {
	w.t.Helper()
	if p, ref, err := w.e.Phase(symbol); p != phase || ref != reference || err != api.OK {
		w.t.Errorf("%s: phase %d, reference %d, error %d, want %d, %d", symbol, p, ref, err, phase, reference)
	}
}

func TestExampleOfTheOpening(t *testing.T) {
	w := start(t, 0)
	w.at = preOpen
	w.tells(api.Command{Kind: api.DoTime}, phase(api.PreOpen))
	buy, sell := order(1, "b", "A", 10, 101), order(2, "s", "B", -10, 99)
	b, s := of(api.EvAccepted, 1, buy), of(api.EvAccepted, 2, sell)
	w.tells(buy, b, level(api.Buy, 101, 10, 1))
	w.tells(sell, s, level(api.Sell, 99, 10, 1))
	w.at = trading
	auction := api.Event{Kind: api.EvAuction, Symbol: "ABC", Level: api.Level{Price: 100, Qty: 10}}
	want := []api.Event{phase(api.Opening), auction}
	want = append(want, traded(after(b, 10), after(s, 10), 0, 100, 10)...)
	want = append(want, phase(api.Trading), level(api.Buy, 101, 0, 0), level(api.Sell, 99, 0, 0))
	w.tells(api.Command{Kind: api.DoTime}, want...)
}

func TestExampleOfAStop(t *testing.T) {
	w := start(t, trading)
	stopped, sell, buy := order(1, "w", "A", 5, 0, stop(105)), order(2, "s", "B", -1, 105), order(3, "b", "C", 1, 105)
	w.tells(stopped, of(api.EvAccepted, 1, stopped))
	w.tells(sell, of(api.EvAccepted, 2, sell), level(api.Sell, 105, 1, 1))
	alive := of(api.EvTriggered, 1, stopped)
	alive.O.Type = api.Market
	gone := alive
	gone.Kind = api.EvCancelled
	want := []api.Event{of(api.EvAccepted, 3, buy)}
	want = append(want, traded(after(of(0, 3, buy), 1), after(of(0, 2, sell), 1), api.Buy, 105, 1)...)
	w.tells(buy, append(want, alive, gone, level(api.Sell, 105, 0, 0))...)
}

func TestExampleOfTheClose(t *testing.T) {
	w := start(t, trading)
	a, b := order(1, "a", "A", 5, 90), order(1, "b", "A", -5, 110)
	w.does(a, "accepted ABC 1/a#1 5@90", "ABC buy 90: 5 of 1")
	w.does(b, "accepted ABC 1/b#2 5@110", "ABC sell 110: 5 of 1")
	w.does(order(2, "c", "B", 5, 89, life(api.GTC)), "accepted ABC 2/c#3 5@89", "ABC buy 89: 5 of 1")
	w.goes(closing, "ABC Closing")
	w.at = closed
	w.tells(api.Command{Kind: api.DoTime}, phase(api.Closed), of(api.EvExpired, 1, a), of(api.EvExpired, 2, b), level(api.Buy, 90, 0, 0), level(api.Sell, 110, 0, 0))
}

func TestE1New(t *testing.T) {
	c := newCalendar(t)
	many := func(n int) []api.Instrument {
		var l []api.Instrument
		for i := range n {
			x := abc()
			x.Symbol = fmt.Sprint("S", i)
			l = append(l, x)
		}
		return l
	}
	bad := abc()
	bad.Lot = 0
	accounts := func(n int) []api.Account {
		var l []api.Account
		for i := range n {
			l = append(l, api.Account{Name: fmt.Sprint("A", i)})
		}
		return l
	}
	for _, x := range []struct {
		name     string
		l        []api.Instrument
		accounts []api.Account
		c        *clock.Calendar
		want     api.Errno
	}{
		{"one", many(1), nil, c, api.OK},
		{"as many as may be", many(8), accounts(16), c, api.OK},
		{"one more", many(9), nil, c, api.ErrListing},
		{"very many", make([]api.Instrument, 100000), nil, c, api.ErrListing},
		{"none", nil, nil, c, api.ErrListing},
		{"an empty list", []api.Instrument{}, nil, c, api.ErrListing},
		{"two with one symbol", append(many(3), many(1)...), nil, c, api.ErrListing},
		{"two with one symbol, else apart", []api.Instrument{abc(), other(), {Symbol: "ABC", Lot: 5, Most: 5, Steps: []api.Step{{Tick: 1}}, Reference: 1}}, nil, c, api.ErrListing},
		{"one that may not be", []api.Instrument{bad}, nil, c, api.ErrListing},
		{"the last one may not be", append(many(7), bad), nil, c, api.ErrListing},
		{"zero ones", make([]api.Instrument, 2), nil, c, api.ErrListing},
		{"no calendar", many(1), nil, nil, api.ErrArg},
		{"no calendar, no instrument", nil, nil, nil, api.ErrArg},
		{"no calendar, too many accounts", many(1), accounts(17), nil, api.ErrArg},
		{"too many accounts", many(1), accounts(17), c, api.ErrMany},
		{"too many accounts, no instrument", nil, accounts(17), c, api.ErrListing},
		{"too many accounts, one that may not be", append(many(1), bad), accounts(17), c, api.ErrListing},
		{"an account that may not be", many(1), []api.Account{{Name: "a"}}, c, api.ErrArg},
		{"an account twice", many(1), append(accounts(3), accounts(1)...), c, api.ErrKnown},
	} {
		e, err := New(x.l, x.accounts, x.c)
		if err != x.want || (e == nil) != (x.want != api.OK) {
			t.Errorf("%s: %v, %d, want %d", x.name, e != nil, err, x.want)
		}
	}
}

func TestE1NewIsFresh(t *testing.T) {
	e, _ := New([]api.Instrument{abc(), other()}, []api.Account{{Name: "A"}}, newCalendar(t))
	w := &world{t, e, 0}
	w.checkPhase("ABC", api.Closed, 100)
	w.checkPhase("XY", api.Closed, 100)
	w.checkGuard("A", 0, 0)
	w.checkOver(1, "a")
	w.checkOver(0, "")
	for _, s := range []string{"ABC", "XY"} {
		for side := -1; side < 4; side++ {
			if l, err := e.Depth(s, side); len(l) != 0 || err != api.OK {
				t.Errorf("Depth(%s, %d): %+v, %d", s, side, l, err)
			}
		}
	}
	if e.Now() != 0 {
		t.Errorf("Now: %d", e.Now())
	}
}

func TestE1NewKeepsNothing(t *testing.T) {
	l, accounts := []api.Instrument{abc(), other()}, []api.Account{{Name: "A", Order: 1000}}
	e, _ := New(l, accounts, newCalendar(t))
	l[0].Steps[0], l[0].Turns[1] = api.Step{From: 0, Tick: 7}, api.Turn{Minute: 500, Phase: api.Closed}
	l[0].Symbol, l[0].Reference, l[0].Most, l[1] = "DEF", 7, 1, api.Instrument{}
	accounts[0] = api.Account{Name: "B"}
	w := &world{t, e, trading}
	w.goes(trading, "ABC PreOpen", "XY PreOpen", "ABC Opening", "ABC Trading", "XY Opening", "XY Trading")
	w.does(order(1, "a", "A", 10, 100), "accepted ABC 1/a#1 10@100", "ABC buy 100: 10 of 1")
	w.does(order(1, "b", "A", 10, 101), "refused ABC 1/b by 150")
	w.does(order(1, "b", "B", 10, 101), "refused ABC 1/b by 161")
}

// refusedBy is the event that a refusal is, as E2 says it.
func refusedBy(c api.Command, name string, err api.Errno) api.Event {
	return api.Event{Kind: api.EvRejected, Symbol: c.O.Symbol, Owner: c.Owner, Name: name, O: c.O, Err: err}
}

func TestE2RefusalsAreWholeAndNamedRight(t *testing.T) {
	w := start(t, trading)
	w.does(order(4, "a", "A", 1, 90), "accepted ABC 4/a#1 1@90", "ABC buy 90: 1 of 1")
	full := api.Command{
		Owner: 4, Name: "meant", Account: api.Account{Name: "no"},
		O: api.Order{ID: 1, Name: "own", Account: "NO", Symbol: "NO", Side: api.Sell, Type: 3, Life: 4, Price: 5, Stop: 6, Qty: 7, Show: 8, Done: 9, Least: 10, Until: 11, Owner: 12},
	}
	for kind, want := range map[int]api.Errno{
		api.DoNew: api.ErrSymbol, api.DoCancel: api.ErrNone, api.DoReplace: api.ErrNone, api.DoMass: api.ErrSymbol,
		api.DoHalt: api.ErrSymbol, api.DoResume: api.ErrSymbol, api.DoKill: api.ErrAccount, api.DoLimits: api.ErrArg,
		0: api.ErrArg, 10: api.ErrArg, -1: api.ErrArg, math.MaxInt: api.ErrArg, math.MinInt: api.ErrArg,
	} {
		c := full
		c.Kind = kind
		name := "meant"
		if kind == api.DoNew {
			name = "own"
		}
		w.at = trading
		c.Time = trading
		w.tells(c, refusedBy(c, name, want))
	}
}

func TestE2WrongKindsAndTimesLetNoTimePass(t *testing.T) {
	for _, x := range []struct {
		kind int
		at   int64
	}{
		{api.DoTime, -1}, {api.DoTime, api.MaxTime + 1}, {api.DoNew, -1}, {api.DoMass, math.MinInt64}, {api.DoKill, math.MaxInt64},
		{0, closed}, {10, closed}, {-5, closed}, {0, -1},
	} {
		w := start(t, trading)
		c := api.Command{Kind: x.kind, Time: x.at, Name: "n"}
		name := "n"
		if x.kind == api.DoNew {
			name = ""
		}
		if got := w.e.Do(c); !slices.Equal(got, []api.Event{refusedBy(c, name, api.ErrArg)}) {
			t.Errorf("%+v: %+v", c, got)
		}
		if w.e.Now() != trading {
			t.Errorf("%+v: now %d", c, w.e.Now())
		}
		w.checkPhase("ABC", api.Trading, 100)
	}
	w := &world{t: t}
	w.e, _ = New([]api.Instrument{abc()}, nil, newCalendar(t))
	w.e.Do(api.Command{Kind: 10, Time: trading})
	if w.e.Now() != 0 || w.e.begun {
		t.Errorf("a time has begun: %d", w.e.Now())
	}
}

func TestE2TimeComesAheadAndLevelsBehind(t *testing.T) {
	w := startBoth(t, preOpen)
	w.does(order(1, "x", "A", 10, 95, symbol("XY")), "accepted XY 1/x#1 10@95", "XY buy 95: 10 of 1")
	w.does(order(1, "a", "A", 1, 95), "accepted ABC 1/a#2 1@95", "ABC buy 95: 1 of 1")
	w.at = trading
	w.does(api.Command{Kind: api.DoMass, Owner: 1, O: api.Order{Name: "m"}},
		"ABC Opening", "ABC Trading", "XY Opening", "XY Trading",
		"cancelled ABC 1/a#2 1@95", "cancelled XY 1/x#1 10@95", "mass  1/m: 2",
		"ABC buy 95: 0 of 0", "XY buy 95: 0 of 0")
	// Also behind a command that is refused.
	w.does(order(1, "d", "A", 1, 95), "accepted ABC 1/d#3 1@95", "ABC buy 95: 1 of 1")
	w.at = closed
	w.does(cancel(1, "d"), "ABC Closing", "XY Closed", "ABC Closed", "expired ABC 1/d#3 1@95", "refused  1/d by 121", "ABC buy 95: 0 of 0")
}

func TestE2TimeDoesNotGoBack(t *testing.T) {
	w := start(t, trading, api.Account{Name: "A", Burst: 1, Per: 1000})
	w.at = trading - 5*hour
	w.does(order(1, "a", "A", 1, 90), "accepted ABC 1/a#1 1@90", "ABC buy 90: 1 of 1")
	w.at = 0
	w.does(order(1, "b", "A", 1, 90), "refused ABC 1/b by 151")
	if w.e.Now() != trading {
		t.Errorf("now: %d", w.e.Now())
	}
	w.at = trading + 999
	w.does(order(1, "b", "A", 1, 90), "refused ABC 1/b by 151")
	w.at = trading + 1000
	w.does(order(1, "b", "A", 1, 90), "accepted ABC 1/b#2 1@90", "ABC buy 90: 2 of 2")
	// The day of T counts, not that of the command's time.
	w.at = trading - 10*day
	w.does(order(1, "c", "A", 1, 90, until(20231230)), "refused ABC 1/c by 105")
}

func TestE2FirstAndLastTimes(t *testing.T) {
	w := start(t, 0)
	if w.e.Now() != 0 || !w.e.begun {
		t.Errorf("now: %d", w.e.Now())
	}
	w.does(order(1, "a", "A", 1, 90), "refused ABC 1/a by 104")
	w.goes(api.MaxTime, "ABC PreOpen", "ABC Opening", "ABC Trading", "ABC Closing", "ABC Closed") // a Friday
	if w.e.Now() != api.MaxTime {
		t.Errorf("now: %d", w.e.Now())
	}
	w.goes(0)
}

func TestE3RefusedByTheFirst(t *testing.T) {
	// Each order has the faults of all that stand below it, and no more.
	w := startBoth(t, trading, api.Account{Name: "A", Order: 1000}, api.Account{Name: "K"})
	w.does(order(1, "used", "A", 1, 90), "accepted ABC 1/used#1 1@90", "ABC buy 90: 1 of 1")
	w.does(api.Command{Kind: api.DoKill, Account: api.Account{Name: "K"}}, "mass  0/: 0")
	for _, x := range []struct {
		name string
		c    api.Command
		want api.Errno
	}{
		{"owner 0", order(0, "a b", "Z", 0, -1, symbol("NO")), api.ErrArg},
		{"owner below 0", order(-1, "good", "A", 1, 90), api.ErrArg},
		{"least owner", order(math.MinInt, "good", "A", 1, 90), api.ErrArg},
		{"no name", order(1, "a b", "Z", 0, -1, symbol("NO")), api.ErrArg},
		{"an empty name", order(1, "", "A", 1, 90), api.ErrArg},
		{"a long name", order(1, strings.Repeat("n", 21), "A", 1, 90), api.ErrArg},
		{"no symbol", order(1, "used", "Z", 0, -1, symbol("NO")), api.ErrSymbol},
		{"an empty symbol", order(1, "good", "A", 1, 90, symbol("")), api.ErrSymbol},
		{"no account", order(1, "used", "Z", 0, -1), api.ErrAccount},
		{"an empty account", order(1, "good", "", 1, 90), api.ErrAccount},
		{"a name that is used", order(1, "used", "A", 0, -1), api.ErrKnown},
		{"a name that is used, of the same order", order(1, "used", "A", 1, 90), api.ErrKnown},
		{"type", order(1, "good", "K", 0, -1), api.ErrType},
		{"lots", order(1, "good", "K", 15, 203, symbol("XY")), api.ErrLot},
		{"ticks", order(1, "good", "K", 10, 203, symbol("XY")), api.ErrTick},
		{"band", order(1, "good", "K", 10, 205, symbol("XY"), life(api.AtOpen)), api.ErrBand},
		{"phase", order(1, "good", "K", 10, 105, symbol("XY"), life(api.AtOpen)), api.ErrPhase},
		{"a stopped account", order(1, "good", "K", 100, 105, life(api.FOK)), api.ErrKill},
		{"above a limit", order(1, "good", "A", 10, 101, life(api.FOK)), api.ErrLimit},
		{"stops", order(1, "good", "A", 1, 0, stop(0)), api.ErrType},
	} {
		w.tells(x.c, refusedBy(x.c, x.c.O.Name, x.want))
		w.checkOver(x.c.Owner, "good")
	}
	w.does(order(1, "good", "A", 10, 100), "accepted ABC 1/good#2 10@100", "ABC buy 100: 10 of 1")
	w.does(order(math.MaxInt, strings.Repeat("N", 20), "A", 1, 100), "accepted ABC 9223372036854775807/NNNNNNNNNNNNNNNNNNNN#3 1@100", "ABC buy 100: 11 of 2")
}

func TestE3NumberOwnerAndDoneAreTheEngines(t *testing.T) {
	w := start(t, trading)
	c := order(2, "a", "A", 5, 90, func(o *api.Order) { o.ID, o.Owner, o.Done = 77, 9, 3 })
	w.tells(c, of(api.EvAccepted, 1, c), level(api.Buy, 90, 5, 1))
	w.checkOrder(2, "a", of(0, 1, c).O)
	w.checkOver(9, "a")
	s := order(2, "s", "A", 5, 0, stop(200), func(o *api.Order) { o.ID, o.Owner, o.Done = 1, 9, 3 })
	w.tells(s, of(api.EvAccepted, 2, s))
	w.checkOrder(2, "s", of(0, 2, s).O)
}

func TestE3NumbersAreTakenByWhatIsAccepted(t *testing.T) {
	w := start(t, trading)
	w.does(order(1, "a", "A", 1, 90, life(api.FOK)), "refused ABC 1/a by 124")
	w.does(order(1, "b", "Z", 1, 90), "refused ABC 1/b by 161")
	w.does(order(1, "a", "A", 1, 90), "accepted ABC 1/a#1 1@90", "ABC buy 90: 1 of 1")
	w.does(order(1, "i", "A", 1, 80, life(api.IOC)), "accepted ABC 1/i#2 1@80", "cancelled ABC 1/i#2 1@80")
	w.does(order(1, "s", "A", 1, 0, stop(99)), "accepted ABC 1/s#3 1@0")
	w.does(order(2, "a", "A", 1, 90), "accepted ABC 2/a#4 1@90", "ABC buy 90: 2 of 2")
}

func TestE3TheBookRefuses(t *testing.T) {
	w := start(t, trading)
	w.does(order(1, "s", "A", -5, 100), "accepted ABC 1/s#1 5@100", "ABC sell 100: 5 of 1")
	for _, x := range []struct {
		c    api.Command
		want api.Errno
	}{
		{order(2, "b", "B", 6, 100, life(api.FOK)), api.ErrFill},
		{order(2, "b", "B", 9, 100, least(6)), api.ErrFill},
		{order(2, "b", "A", 5, 100, life(api.FOK)), api.ErrFill},
		{order(2, "b", "B", 1, 100, life(api.PostOnly)), api.ErrCross},
	} {
		e := of(api.EvRejected, 2, x.c) // with the order as it was handed to the book
		e.Err = x.want
		w.tells(x.c, e)
		w.checkOver(2, "b")
		w.checkGuard("B", 0, 0)
	}
	// Neither the name nor the number is taken.
	w.does(order(2, "b", "B", 5, 99), "accepted ABC 2/b#2 5@99", "ABC buy 99: 5 of 1")
}

// filled puts so many buy orders of one into the book, at 50.
func (w *world) filled(n int) {
	w.t.Helper()
	for i := range n {
		c := order(9, fmt.Sprint("f", i), "C", 1, 50)
		c.Time = w.at
		if l := w.e.Do(c); len(l) != 2 || l[0].Kind != api.EvAccepted {
			w.t.Fatalf("order %d: %+v", i, l)
		}
	}
}

func TestE3TheBookIsFull(t *testing.T) {
	for _, at := range []int64{preOpen, trading, closing} {
		w := start(t, at)
		w.filled(499)
		w.does(order(1, "a", "A", 2, 49), "accepted ABC 1/a#500 2@49", "ABC buy 49: 2 of 1")
		c := order(1, "b", "A", 2, 49)
		e := of(api.EvRejected, 501, c)
		e.Err = api.ErrMany
		w.tells(c, e)
		w.does(order(1, "s", "A", 2, 0, stop(200)), "accepted ABC 1/s#501 2@0")
		w.does(cancel(1, "a"), "cancelled ABC 1/a#500 2@49", "ABC buy 49: 0 of 0")
		w.does(c, "accepted ABC 1/b#502 2@49", "ABC buy 49: 2 of 1")
		if at == trading {
			w.does(order(1, "i", "A", -1, 60, life(api.IOC)), "accepted ABC 1/i#503 1@60", "cancelled ABC 1/i#503 1@60")
		}
	}
}

func TestE3TheStopsAreFull(t *testing.T) {
	w := startBoth(t, trading)
	for i := range 200 {
		w.does(order(1, fmt.Sprint("s", i), "A", 1, 0, stop(200)), fmt.Sprintf("accepted ABC 1/s%d#%d 1@0", i, i+1))
	}
	c := order(1, "more", "A", 1, 0, stop(200))
	w.tells(c, refusedBy(c, "more", api.ErrMany))
	w.checkOver(1, "more")
	w.checkGuard("A", 200*100, 0)
	w.does(order(1, "more", "A", 10, 0, stop(200), symbol("XY")), "accepted XY 1/more#201 10@0")
	w.does(cancel(1, "s7"), "cancelled ABC 1/s7#8 1@0")
	c.O.Name = "again"
	w.does(c, "accepted ABC 1/again#202 1@0")
}

func TestE3AStopThatTheLastTradeWakesComesAtOnce(t *testing.T) {
	trades := func(w *world, price int64) {
		w.does(order(1, "x", "A", -1, price), fmt.Sprintf("accepted ABC 1/x#1 1@%d", price), fmt.Sprintf("ABC sell %d: 1 of 1", price))
		w.does(order(2, "y", "B", 1, price), fmt.Sprintf("accepted ABC 2/y#2 1@%d", price), fmt.Sprintf("traded ABC 2/y#2 0@%d: buy 1@%d", price, price), fmt.Sprintf("traded ABC 1/x#1 0@%d: sell 1@%d", price, price), fmt.Sprintf("ABC sell %d: 0 of 0", price))
	}
	w := start(t, trading)
	w.does(order(3, "n", "C", 5, 0, stop(1)), "accepted ABC 3/n#1 5@0") // nothing has traded: the reference is no trade
	w = start(t, trading)
	trades(w, 105)
	w.does(order(3, "a", "C", 5, 0, stop(106)), "accepted ABC 3/a#3 5@0")
	w.does(order(3, "b", "C", 5, 0, stop(105)), "accepted ABC 3/b#4 5@0", "triggered ABC 3/b#4 5@0", "cancelled ABC 3/b#4 5@0")
	w.does(order(3, "c", "C", -5, 0, stop(104)), "accepted ABC 3/c#5 5@0")
	w.does(order(3, "d", "C", -5, 103, stop(105)), "accepted ABC 3/d#6 5@103", "triggered ABC 3/d#6 5@103", "ABC sell 103: 5 of 1")
	w.checkOver(3, "b")
	w.goes(closing, "ABC Closing")
	// In Closing it waits.
	w.does(order(3, "e", "C", 5, 0, stop(105), life(api.GTC)), "accepted ABC 3/e#7 5@0")
	w.goes(closed, "ABC Closed", "expired ABC 3/a#3 5@0", "expired ABC 3/c#5 5@0", "expired ABC 3/d#6 5@103", "ABC sell 103: 0 of 0")
	w.goes(preOpen+day, "ABC PreOpen")
	w.does(order(3, "f", "C", -5, 0, stop(105)), "accepted ABC 3/f#8 5@0")
	w.does(order(3, "g", "C", -5, 0, stop(104)), "accepted ABC 3/g#9 5@0")
	w.goes(trading+day, "ABC Opening", "ABC Trading", "triggered ABC 3/e#7 5@0", "cancelled ABC 3/e#7 5@0", "triggered ABC 3/f#8 5@0", "cancelled ABC 3/f#8 5@0")
}

func TestE3RestsInPreOpenAndClosing(t *testing.T) {
	for _, at := range []int64{preOpen, closing} {
		w := start(t, at)
		w.does(order(1, "b", "A", 5, 110), "accepted ABC 1/b#1 5@110", "ABC buy 110: 5 of 1")
		w.does(order(2, "s", "B", -5, 90), "accepted ABC 2/s#2 5@90", "ABC sell 90: 5 of 1")
		w.does(order(1, "t", "A", -5, 90), "accepted ABC 1/t#3 5@90", "ABC sell 90: 10 of 2")
		w.checkGuard("A", 5*110+5*90, 0)
	}
	w := start(t, preOpen)
	w.does(order(1, "m", "A", 5, 0, market(api.AtOpen)), "accepted ABC 1/m#1 5@0")
	w.checkGuard("A", 500, 0) // at the mark, the reference
	w.does(order(1, "o", "A", 5, 99, life(api.AtOpen)), "accepted ABC 1/o#2 5@99", "ABC buy 99: 5 of 1")
	for _, l := range []int{api.IOC, api.FOK, api.PostOnly} {
		w.does(order(1, "l", "A", 5, 99, life(l)), "refused ABC 1/l by 104")
	}
	w.does(order(1, "l", "A", 5, 99, least(1)), "refused ABC 1/l by 104")
}

func TestE3PhasesThatTakeNothing(t *testing.T) {
	w := start(t, wednesday)
	w.does(order(1, "a", "A", 5, 99), "refused ABC 1/a by 104")
	w.goes(trading, "ABC PreOpen", "ABC Opening", "ABC Trading")
	w.does(halt("ABC"), "ABC Halted")
	w.does(order(1, "a", "A", 5, 99), "refused ABC 1/a by 104")
	w.does(order(1, "a", "A", 5, 0, stop(99)), "refused ABC 1/a by 104")
}

func TestE3UsedNamesStayUsed(t *testing.T) {
	w := start(t, trading)
	w.does(order(1, "a", "A", 5, 90), "accepted ABC 1/a#1 5@90", "ABC buy 90: 5 of 1")
	w.does(cancel(1, "a"), "cancelled ABC 1/a#1 5@90", "ABC buy 90: 0 of 0")
	w.does(order(1, "a", "A", 5, 90), "refused ABC 1/a by 120")
	w.does(order(2, "a", "A", 5, 90), "accepted ABC 2/a#2 5@90", "ABC buy 90: 5 of 1")
	w.does(order(1, "A", "A", 5, 90), "accepted ABC 1/A#3 5@90", "ABC buy 90: 10 of 2")
	w.does(replace(1, "A", "B", 5, 0), "replaced ABC 1/B#3 5@90")
	w.does(order(1, "A", "A", 5, 90), "refused ABC 1/A by 120")
	w.does(order(1, "B", "A", 5, 90), "refused ABC 1/B by 120")
	w.goes(trading+40*day, "ABC Closed", "expired ABC 2/a#2 5@90", "expired ABC 1/B#3 5@90", "ABC PreOpen", "ABC Opening", "ABC Trading", "ABC buy 90: 0 of 0")
	w.does(order(1, "B", "A", 5, 90), "refused ABC 1/B by 120")
	w.does(order(1, "s", "A", 5, 0, stop(90)), "accepted ABC 1/s#4 5@0")
	w.does(order(1, "s", "A", 5, 90), "refused ABC 1/s by 120")
}

func TestE3MostNames(t *testing.T) {
	w := start(t, trading)
	w.does(order(1, "r0", "A", 1, 90), "accepted ABC 1/r0#1 1@90", "ABC buy 90: 1 of 1")
	for i := range 2499 {
		w.does(replace(1, fmt.Sprint("r", i), fmt.Sprint("r", i+1), 1, 0), fmt.Sprintf("replaced ABC 1/r%d#1 1@90", i+1))
	}
	for i := range 2500 {
		w.does(order(1+i%7, fmt.Sprint("i", i), "A", 1, 80, life(api.IOC)), fmt.Sprintf("accepted ABC %d/i%d#%d 1@80", 1+i%7, i, i+2), fmt.Sprintf("cancelled ABC %d/i%d#%d 1@80", 1+i%7, i, i+2))
	}
	w.does(order(1, "more", "A", 1, 90), "refused ABC 1/more by 122")
	w.does(order(8, "more", "A", 1, 0, stop(105)), "refused ABC 8/more by 122")
	w.does(order(1, "more", "Z", 1, 90), "refused ABC 1/more by 161")
	w.does(order(1, "r7", "A", 1, 90), "refused ABC 1/r7 by 120")
	w.does(order(1, "more", "A", 0, 90), "refused ABC 1/more by 122")
	w.does(replace(1, "r2499", "more", 1, 0), "refused  1/r2499 by 122")
	w.does(replace(1, "r2499", "r1", 1, 0), "refused  1/r2499 by 120")
	w.does(replace(1, "r2499", "more", 0, 0), "refused  1/r2499 by 1")
	w.does(cancel(1, "r2499"), "cancelled ABC 1/r2499#1 1@90", "ABC buy 90: 0 of 0")
}

func TestE3ACommandThatTheBookOrALimitRefusesCounts(t *testing.T) {
	w := start(t, trading, api.Account{Name: "A", Order: 100, Burst: 3, Per: 1000})
	w.does(order(1, "a", "A", 1, 90, life(api.FOK)), "refused ABC 1/a by 124")
	w.does(order(1, "a", "A", 10, 90), "refused ABC 1/a by 150")
	w.does(order(1, "a", "A", 10, -1), "refused ABC 1/a by 105") // the listing goes ahead: this one does not count
	w.does(order(1, "a", "A", 1, 90), "accepted ABC 1/a#1 1@90", "ABC buy 90: 1 of 1")
	w.does(replace(1, "a", "b", 1, 0), "refused  1/a by 151")
	w.does(cancel(1, "a"), "cancelled ABC 1/a#1 1@90", "ABC buy 90: 0 of 0")
	w.at += 1000
	w.does(order(1, "b", "A", 1, 0, stop(105)), "accepted ABC 1/b#2 1@0")
	w.does(replace(1, "b", "c", 1, 0), "refused  1/b by 151")
	w.at += 1000
	w.does(replace(1, "b", "c", 1, 0), "replaced ABC 1/c#2 1@0")
}

func TestE3TheMarkIsTheLastPriceOrElseTheReference(t *testing.T) {
	w := start(t, trading, api.Account{Name: "A", Order: 1000}, api.Account{Name: "B"})
	w.does(order(1, "a", "A", 11, 0, stop(200)), "refused ABC 1/a by 150")
	w.does(order(1, "a", "A", 10, 0, stop(200)), "accepted ABC 1/a#1 10@0")
	w.checkGuard("A", 1000, 0)
	w.does(order(2, "s", "B", -1, 50), "accepted ABC 2/s#2 1@50", "ABC sell 50: 1 of 1")
	w.does(order(1, "b", "A", 1, 50), "accepted ABC 1/b#3 1@50", "traded ABC 1/b#3 0@50: buy 1@50", "traded ABC 2/s#2 0@50: sell 1@50", "ABC sell 50: 0 of 0")
	w.does(order(1, "c", "A", 21, 0, stop(200)), "refused ABC 1/c by 150")
	w.does(order(1, "c", "A", 20, 0, stop(200)), "accepted ABC 1/c#4 20@0")
	w.checkGuard("A", 2000, 1) // the first one counts as it was opened
	w.checkPhase("ABC", api.Trading, 100)
	w.does(replace(1, "a", "d", 9, 0), "replaced ABC 1/d#1 9@0")
	w.checkGuard("A", 9*50+20*50, 1)
	w.does(order(1, "e", "A", 11, 0, market(api.IOC)), "accepted ABC 1/e#5 11@0", "cancelled ABC 1/e#5 11@0")
	w.does(order(1, "f", "A", 21, 0, market(api.IOC)), "refused ABC 1/f by 150")
}
