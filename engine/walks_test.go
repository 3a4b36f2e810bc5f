package engine

import (
	"fmt"
	"math"
	"math/rand"
	"reflect"
	"slices"
	"strings"
	"testing"

	"outcry/api"
	"outcry/clock"
)

// walker makes up instruments, accounts and commands, most of which can be done.
type walker struct {
	*rand.Rand
	seed     int64
	calendar *clock.Calendar
	ins      []api.Instrument
	accounts []api.Account
	e        *Engine
	pairs    []pair // those of orders that may live
	names    int
	now      int64
	haste    int // in one of so many steps time goes on by more than a little
}

func pick[T any](w *walker, l ...T) T { return l[w.Intn(len(l))] }

func newWalker(seed int64) *walker {
	w := &walker{Rand: rand.New(rand.NewSource(seed)), seed: seed}
	w.haste = pick(w, 3, 12, 25)
	w.calendar, _ = clock.NewCalendar(pick(w, []int{}, []int{20240104}, []int{20240108, 20240109, 20240212})...)
	for n := range 1 + w.Intn(pick(w, 1, 2, 8)) {
		w.ins = append(w.ins, w.instrument(fmt.Sprint("S", n)))
	}
	for n := range 3 {
		w.accounts = append(w.accounts, w.account(string(rune('A'+n))))
	}
	w.now = pick[int64](w, 0, 3*hour, wednesday+8*hour+5*minute, wednesday+9*hour, wednesday+9*hour+10*minute, wednesday-5*hour)
	w.e, _ = New(w.ins, w.accounts, w.calendar)
	return w
}

func (w *walker) instrument(symbol string) api.Instrument {
	lot := pick[int64](w, 1, 1, 10)
	i := api.Instrument{Symbol: symbol, Lot: lot, Most: lot * pick[int64](w, 30, 1000), Band: pick(w, 0, 0, 500, 2000), Reference: 100}
	i.Steps = pick(w, []api.Step{{From: 0, Tick: 1}}, []api.Step{{From: 0, Tick: 1}}, []api.Step{{From: 0, Tick: 1}, {From: 100, Tick: 2}})
	i.Turns = pick(w,
		turns(480, api.PreOpen, 540, api.Trading, 1000, api.Closing, 1010, api.Closed),
		turns(480, api.PreOpen, 540, api.Trading, 1000, api.Closing, 1010, api.Closed),
		turns(0, api.Trading),
		turns(0, api.PreOpen, 1, api.Trading, 1438, api.Closing, 1439, api.Closed),
		turns(500, api.PreOpen, 540, api.Trading, 700, api.PreOpen, 720, api.Trading, 800, api.Closing, 820, api.Trading),
		turns(480, api.Closing, 545, api.Closed, 550, api.Trading, 555, api.Trading, 600, api.Closed),
		turns(400, api.PreOpen, 900, api.Closed),
		turns(540, api.Trading),
		nil,
	)
	return i
}

func (w *walker) account(name string) api.Account {
	a := api.Account{Name: name}
	if w.Intn(3) > 0 {
		return a
	}
	a.Order, a.Open, a.Position = pick[int64](w, 0, 0, 2000), pick[int64](w, 0, 0, 9000), pick[int64](w, 0, 0, 60)
	a.Burst, a.Per = pick(w, 0, 3, 10), pick(w, 0, 200, 2000)
	return a
}

// passes tells how much time goes by: at night most often up to the next morning, in which most instruments are open.
func (w *walker) passes() int64 {
	ofDay := w.now % day
	if w.Intn(3) > 0 && !w.anyOpen() {
		morning := 8*hour + pick[int64](w, 5, 10, 30, 59, 61, 70, 8*60+41)*minute
		return (morning-ofDay+day-1)%day + 1
	}
	if w.Intn(w.haste) > 0 {
		return int64(w.Intn(400))
	}
	switch w.Intn(16) {
	case 0:
		return int64(w.Intn(20)) * hour / 2
	case 1:
		return int64(w.Intn(6)) * day
	case 2:
		return 31*day + int64(w.Intn(3)-1)
	case 3:
		return int64(w.Intn(80)) * day
	}
	return int64(w.Intn(60)) * minute
}

func (w *walker) isOpen(symbol string) bool {
	phase, _, _ := w.e.Phase(symbol)
	return phase != api.Closed
}

func (w *walker) anyOpen() bool {
	return slices.ContainsFunc(w.ins, func(i api.Instrument) bool { return w.isOpen(i.Symbol) })
}

// symbol is most often one that is open, if there is one.
func (w *walker) symbol() string {
	if w.Intn(80) == 0 {
		return pick(w, "", "NO", "s0")
	}
	symbol := pick(w, w.ins...).Symbol
	for range 10 {
		if w.isOpen(symbol) {
			break
		}
		symbol = pick(w, w.ins...).Symbol
	}
	return symbol
}

func (w *walker) name() string {
	switch w.Intn(60) {
	case 0:
		return pick(w, "", "a b", "aaaaaaaaaaaaaaaaaaaaa", "ä")
	case 1:
		if len(w.pairs) > 0 {
			return pick(w, w.pairs...).name
		}
	}
	w.names++
	return fmt.Sprint("n", w.names)
}

// used gives a pair that may be that of an order that lives: most often one of the newest.
func (w *walker) used() pair {
	if len(w.pairs) == 0 || w.Intn(50) == 0 {
		return pair{w.Intn(4), "none"}
	}
	p := w.pairs[len(w.pairs)-1-w.Intn(min(len(w.pairs), pick(w, 5, 20, 1000)))]
	if w.Intn(50) == 0 {
		p.owner = w.Intn(4)
	}
	return p
}

// hears takes up the names that orders have got, and lets go some of those that they have no more.
func (w *walker) hears(l []api.Event) {
	for _, x := range l {
		p := pair{x.Owner, x.Name}
		switch x.Kind {
		case api.EvAccepted, api.EvReplaced:
			w.pairs = append(w.pairs, p)
		case api.EvCancelled, api.EvExpired:
			if at := slices.Index(w.pairs, p); at >= 0 && w.Intn(5) > 0 {
				w.pairs = slices.Delete(w.pairs, at, at+1)
			}
		}
	}
}

func (w *walker) price() int64 { return int64(94 + 2*w.Intn(7) + w.Intn(20)/19) }

func (w *walker) number(n int64) int64 {
	if w.Intn(300) == 0 {
		return pick[int64](w, -1, 0, 1, math.MinInt64, math.MaxInt64, api.MaxQty, api.MaxQty+1, api.MaxPrice+1)
	}
	return n
}

func (w *walker) lots(symbol string, most int) int64 {
	for _, i := range w.ins {
		if i.Symbol == symbol {
			return i.Lot * int64(1+w.Intn(most))
		}
	}
	return 1
}

func (w *walker) date(days int) int {
	date, _ := clock.DateOf(w.now + int64(days)*day)
	return date
}

func (w *walker) order() api.Order {
	o := api.Order{Name: w.name(), Account: string(rune('A' + w.Intn(100)*3/99)), Symbol: w.symbol()}
	o.Side, o.Type = 1+w.Intn(2), pick(w, 1, 1, 1, 1, 1, 1, 2, 3, 3, 4, 4)
	phase, _, _ := w.e.Phase(o.Symbol)
	calls := phase != api.Trading && w.Intn(5) > 0 // ahead of an auction: then most orders are such as may come
	o.Life = pick(w, api.Day, api.Day, api.Day, api.GTC, api.GTD, api.IOC, api.FOK, api.PostOnly, api.AtOpen)
	if calls {
		o.Life = pick(w, api.Day, api.GTC, api.GTD, api.AtOpen)
	}
	switch o.Type {
	case api.Market:
		o.Life = pick(w, api.IOC, api.FOK, api.AtOpen)
		if calls {
			o.Life = api.AtOpen
		}
	case api.Stop, api.StopLimit:
		o.Life = pick(w, api.Day, api.GTC, api.GTD)
		o.Stop = w.number(w.price())
	}
	if o.Type == api.Limit || o.Type == api.StopLimit {
		o.Price = w.number(w.price())
	}
	if o.Life == api.GTD {
		o.Until = w.date(w.Intn(6) - 1)
	}
	o.Qty = w.number(w.lots(o.Symbol, 12))
	if w.Intn(4) == 0 && o.Type == api.Limit && o.Life != api.IOC && o.Life != api.FOK && o.Life != api.AtOpen {
		o.Show = w.number(w.lots(o.Symbol, 4))
	}
	if w.Intn(6) == 0 && !calls && o.Type < api.Stop && o.Life != api.FOK && o.Life != api.AtOpen && o.Life != api.PostOnly {
		o.Least = w.number(w.lots(o.Symbol, 4))
	}
	if w.Intn(100) == 0 { // what is not to count, or may not be
		o.ID, o.Done, o.Owner = w.Intn(9), int64(w.Intn(9)), w.Intn(9)
		o.Side, o.Type, o.Life = w.Intn(4), w.Intn(6), w.Intn(9)
	}
	return o
}

func (w *walker) command() api.Command {
	w.now += w.passes()
	c := api.Command{Kind: api.DoNew, Time: w.now, Owner: 1 + w.Intn(3)}
	switch n := w.Intn(100); {
	case n < 55:
		c.O = w.order()
	case n < 63:
		p := w.used()
		c.Kind, c.Owner, c.Name = api.DoCancel, p.owner, p.name
		c.O = api.Order{Name: w.name(), Symbol: w.symbol(), ID: w.Intn(5)}
	case n < 82:
		p := w.used()
		c.Kind, c.Owner, c.Name = api.DoReplace, p.owner, p.name
		c.O = api.Order{Name: w.name(), Symbol: w.symbol(), Qty: w.number(w.lots(w.symbol(), 15))}
		if w.Intn(2) == 0 {
			c.O.Price = w.number(w.price())
		}
		if w.Intn(5) == 0 {
			c.O.Stop = w.number(w.price())
		}
	case n < 84:
		c.Kind, c.O = api.DoMass, api.Order{ID: w.Intn(9), Name: w.name(), Symbol: pick(w, "", w.symbol()), Account: pick(w, "", "A", "B", "X"), Side: pick(w, 0, 1, 2, 2, 3)}
	case n < 85:
		c.Kind, c.O.Symbol = api.DoHalt, w.symbol()
	case n < 91:
		c.Kind, c.O.Symbol, c.Name = api.DoResume, w.symbol(), "r"
	case n < 92:
		c.Kind, c.Account.Name = api.DoKill, pick(w, "A", "B", "X")
	case n < 96:
		c.Kind, c.Account.Name, c.O.Side = api.DoKill, pick(w, "A", "B", "C"), 1+w.Intn(2)
	case n < 97:
		c.Kind, c.Account = api.DoLimits, w.account(pick(w, "A", "B", "C", "D", "d"))
		c.Account.Order = w.number(c.Account.Order)
	case n < 98:
		c.Kind, c.Time = w.Intn(12)-1, pick(w, w.now, w.now, -1, api.MaxTime+1, math.MinInt64, math.MaxInt64, 0)
	default:
		c.Kind = api.DoTime
	}
	if w.Intn(40) == 0 && w.now > hour {
		c.Time -= int64(w.Intn(hour))
	}
	return c
}

// holds holds what the engine answers when it is asked against the reading.
func (r *reading) holds(t *testing.T, e *Engine) {
	t.Helper()
	if e.Now() != r.now {
		t.Fatalf("now: %d, the reading says %d", e.Now(), r.now)
	}
	for in, i := range r.ins {
		phase, ref, err := e.Phase(i.i.Symbol)
		if phase != i.phase || ref != i.ref || err != api.OK {
			t.Fatalf("%s: phase %d, reference %d, error %d, the reading says %d, %d", i.i.Symbol, phase, ref, err, i.phase, i.ref)
		}
		for side := -1; side <= 3; side++ {
			if got, err := e.Depth(i.i.Symbol, side); err != api.OK || !slices.Equal(got, r.depth(in, side)) {
				t.Fatalf("%s, side %d: %+v, %d, the reading says %+v", i.i.Symbol, side, got, err, r.depth(in, side))
			}
		}
		for name, a := range r.accounts {
			open := int64(0)
			for _, x := range r.all {
				if x.open && x.o.Account == name {
					open += x.value
				}
			}
			if o, p, err := e.guard.Look(name, i.i.Symbol); o != open || p != a.position[i.i.Symbol] || err != api.OK {
				t.Fatalf("%s of %s: open %d, position %d, error %d, the reading says %d, %d", i.i.Symbol, name, o, p, err, open, a.position[i.i.Symbol])
			}
		}
	}
}

// holdsOrder holds an order, or that there is none.
func (r *reading) holdsOrder(t *testing.T, e *Engine, p pair) {
	t.Helper()
	got, err := e.Order(p.owner, p.name)
	x := r.find(p.owner, p.name)
	switch {
	case x == nil && (got != api.Order{} || err != api.ErrNone):
		t.Fatalf("order %+v: %+v, %d, the reading has none", p, got, err)
	case x != nil && (got != x.o || err != api.OK):
		t.Fatalf("order %+v: %+v, %d, the reading says %+v", p, got, err, x.o)
	}
}

// step does a command, and holds what is told against the reading.
func (w *walker) step(t *testing.T, r *reading, c api.Command) []api.Event {
	t.Helper()
	got, want := w.e.Do(c), r.do(c)
	if !slices.Equal(got, want) {
		t.Fatalf("walk %d: %+v:\n%s\nthe reading says\n%s", w.seed, c, lines(got), lines(want))
	}
	w.hears(got)
	r.holds(t, w.e)
	return got
}

// spoil puts something wild into a field of a struct, or of one within it.
func (w *walker) spoil(x reflect.Value) {
	f := x.Field(w.Intn(x.NumField()))
	switch f.Kind() {
	case reflect.Struct:
		w.spoil(f)
	case reflect.String:
		f.SetString(pick(w, "", "A", "B", "S0", "s0", "n1", " ", "\xff", "\x00", "é", strings.Repeat("A", 12), strings.Repeat("A", 13), strings.Repeat("n", 20), strings.Repeat("n", 21), strings.Repeat("z", 70000)))
	default:
		f.SetInt(pick[int64](w, math.MinInt64, math.MinInt64+1, -api.MaxQty, -1, 0, 1, 2, 3, 4, 5, 6, 7, 8, 9, 10, 99, 100, 101, 20240103, api.MaxQty, api.MaxQty+1, api.MaxPrice, api.MaxPrice+1, 1<<32, 1e18, 1e18+1, math.MaxInt64-1, math.MaxInt64))
	}
}

func TestWildCommands(t *testing.T) {
	for seed := range int64(150) {
		w := newWalker(5000 + seed)
		r := newReading(w.ins, w.accounts, w.calendar)
		for range 300 {
			c := w.command()
			at := c.Time
			for range w.Intn(4) {
				w.spoil(reflect.ValueOf(&c).Elem())
			}
			if c.Time >= 0 && c.Time <= api.MaxTime {
				c.Time = at // else time would soon be at its end
			}
			w.step(t, r, c)
		}
	}
}

func TestRandomWalks(t *testing.T) {
	walks, steps := 1200, 400
	if testing.Short() {
		walks = 100
	}
	seen := map[int]int{} // how often each kind of event was told
	for seed := range walks {
		w := newWalker(int64(seed))
		r := newReading(w.ins, w.accounts, w.calendar)
		for range steps {
			for _, x := range w.step(t, r, w.command()) {
				seen[x.Kind]++
			}
			for range 3 {
				r.holdsOrder(t, w.e, w.used())
			}
		}
	}
	for kind := api.EvAccepted; kind <= api.EvMass; kind++ {
		if seen[kind] < walks/2 {
			t.Errorf("events of kind %d: only %d were met", kind, seen[kind])
		}
	}
}
