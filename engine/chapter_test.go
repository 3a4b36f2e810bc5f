package engine

import (
	"fmt"
	"slices"
	"sort"

	"outcry/api"
	"outcry/clock"
	"outcry/listing"
	"outcry/msg"
)

// A second reading of the chapter, by other means, against which the package is held: all orders that were ever accepted stand in one list, each with where it is; who trades with whom is looked for among all of them each time; an auction asks every price of every order; time goes through all minutes. Of the layers below only listing, clock and msg are asked.

type readOrder struct {
	o     api.Order // by its name as it is
	in    int       // the place of its instrument
	where string    // "book", "stops", "row" or "over"
	shown int64
	rank  int
	open  bool // for the guard, with:
	qty   int64
	value int64
}

type readInstrument struct {
	i     api.Instrument
	rules *listing.Listing
	phase int
	ref   int64
	last  int64
	held  bool
	told  [3][]api.Level
}

type readAccount struct {
	limits   api.Account
	stopped  bool
	due      int64
	position map[string]int64
}

type reading struct {
	ins      []*readInstrument
	all      []*readOrder // the order of the number 1, 2, ..
	used     map[string]bool
	accounts map[string]*readAccount
	now      int64
	begun    bool
	rank     int
	out      []api.Event
}

func newReading(l []api.Instrument, accounts []api.Account, c *clock.Calendar) *reading {
	r := &reading{used: map[string]bool{}, accounts: map[string]*readAccount{}}
	for _, i := range l {
		rules, _ := listing.New(i, c)
		r.ins = append(r.ins, &readInstrument{i: i, rules: rules, ref: i.Reference})
	}
	for _, a := range accounts {
		r.accounts[a.Name] = &readAccount{limits: a, position: map[string]int64{}}
	}
	return r
}

func (r *reading) place(symbol string) int {
	return slices.IndexFunc(r.ins, func(i *readInstrument) bool { return i.i.Symbol == symbol })
}

func readPair(owner int, name string) string { return fmt.Sprint(owner, " ", name) }

func (r *reading) find(owner int, name string) *readOrder {
	for _, x := range r.all {
		if x.o.Owner == owner && x.o.Name == name && (x.where == "book" || x.where == "stops") {
			return x
		}
	}
	return nil
}

func (r *reading) say(x api.Event) { r.out = append(r.out, x) }

func (r *reading) sayOf(kind int, o api.Order, f api.Fill, err api.Errno) {
	r.say(api.Event{Kind: kind, Symbol: o.Symbol, Owner: o.Owner, Name: o.Name, O: o, Side: o.Side, F: f, Err: err})
}

func (r *reading) newRank() int {
	r.rank++
	return r.rank
}

func (r *reading) mark(in int) int64 {
	if r.ins[in].last != 0 {
		return r.ins[in].last
	}
	return r.ins[in].ref
}

func readRefusal(c api.Command, err api.Errno) api.Event {
	name := c.Name
	if c.Kind == 1 {
		name = c.O.Name
	}
	return api.Event{Kind: api.EvRejected, Err: err, Symbol: c.O.Symbol, O: c.O, Owner: c.Owner, Name: name}
}

// do is E2.
func (r *reading) do(c api.Command) []api.Event {
	r.out = nil
	if c.Kind < 1 || c.Kind > 9 || c.Time < 0 || c.Time > 253402300799999 {
		return []api.Event{readRefusal(c, api.ErrArg)}
	}
	t := c.Time
	if r.begun && r.now > t {
		t = r.now
	}
	r.pass(t)
	if err := r.done(c); err != api.OK {
		r.say(readRefusal(c, err))
	}
	for in := range r.ins {
		r.levels(in)
	}
	return r.out
}

func (r *reading) done(c api.Command) api.Errno {
	switch c.Kind {
	case api.DoNew:
		return r.doNew(c)
	case api.DoCancel:
		x := r.find(c.Owner, c.Name)
		if x == nil {
			return api.ErrNone
		}
		r.cancel(x)
	case api.DoReplace:
		return r.doReplace(c)
	case api.DoMass:
		return r.doMass(c)
	case api.DoHalt, api.DoResume:
		return r.doHalt(c.Kind == api.DoHalt, r.place(c.O.Symbol))
	case api.DoKill:
		return r.doKill(c)
	case api.DoLimits:
		return r.doLimits(c.Account)
	}
	return api.OK
}

// depth is what waits on a side, by prices, the best first.
func (r *reading) depth(in, side int) []api.Level {
	sums := map[int64]api.Level{}
	for _, x := range r.all {
		if x.in == in && x.where == "book" && x.o.Side == side && x.o.Price != 0 {
			l := sums[x.o.Price]
			sums[x.o.Price] = api.Level{Price: x.o.Price, Qty: l.Qty + x.shown, Orders: l.Orders + 1}
		}
	}
	var l []api.Level
	for _, x := range sums {
		l = append(l, x)
	}
	sort.Slice(l, func(a, b int) bool { return (l[a].Price < l[b].Price) == (side == api.Sell) })
	return l
}

// levels holds what is against what was told last, at all prices of both.
func (r *reading) levels(in int) {
	i := r.ins[in]
	for side := 1; side <= 2; side++ {
		is := r.depth(in, side)
		var prices []int64
		for _, x := range slices.Concat(is, i.told[side]) {
			prices = append(prices, x.Price)
		}
		slices.Sort(prices)
		prices = slices.Compact(prices)
		if side == api.Buy {
			slices.Reverse(prices)
		}
		for _, price := range prices {
			at := func(l []api.Level) api.Level {
				for _, x := range l {
					if x.Price == price {
						return x
					}
				}
				return api.Level{Price: price}
			}
			if at(is) != at(i.told[side]) {
				r.say(api.Event{Kind: api.EvLevel, Symbol: i.i.Symbol, Side: side, Level: at(is)})
			}
		}
		i.told[side] = is
	}
}

// count tells how many wait somewhere in an instrument.
func (r *reading) count(in int, where string) int {
	n := 0
	for _, x := range r.all {
		if x.in == in && x.where == where {
			n++
		}
	}
	return n
}

// mayGo is the guard's Check.
func (r *reading) mayGo(o api.Order, in int) api.Errno {
	a := r.accounts[o.Account]
	if a.stopped {
		return api.ErrKill
	}
	if a.limits.Burst != 0 && a.limits.Per != 0 {
		if a.due-r.now > int64(a.limits.Burst-1)*int64(a.limits.Per) {
			return api.ErrRate
		}
		a.due = max(a.due, r.now) + int64(a.limits.Per)
	}
	value := o.Qty * o.Price
	if o.Price == 0 {
		value = o.Qty * r.mark(in)
	}
	open, reach := value, o.Qty
	for _, x := range r.all {
		if x.open && x.o.Account == o.Account && x.o.ID != o.ID {
			open += x.value
			if x.in == in && x.o.Side == o.Side {
				reach += x.qty
			}
		}
	}
	if o.Side == api.Buy {
		reach += a.position[o.Symbol]
	} else {
		reach -= a.position[o.Symbol]
	}
	l := a.limits
	if l.Order > 0 && value > l.Order || l.Open > 0 && open > l.Open || l.Position > 0 && reach > l.Position {
		return api.ErrLimit
	}
	return api.OK
}

// guards is the guard's Open or Done of orders, as they are.
func (r *reading) guards(l ...*readOrder) {
	for _, x := range l {
		x.open = x.where == "book" || x.where == "stops"
		x.qty, x.value = x.o.Qty, x.o.Qty*x.o.Price
		if x.o.Price == 0 {
			x.value = x.o.Qty * r.mark(x.in)
		}
	}
}

func (r *reading) refusesName(owner int, name string) api.Errno {
	switch {
	case r.used[readPair(owner, name)]:
		return api.ErrKnown
	case len(r.used) == 5000:
		return api.ErrMany
	}
	return api.OK
}

func (r *reading) fits(o api.Order, in int) api.Errno {
	date, _ := clock.DateOf(r.now)
	return r.ins[in].rules.Check(o, r.ins[in].phase, r.ins[in].ref, date)
}

// doNew is E3.
func (r *reading) doNew(c api.Command) api.Errno {
	o := c.O
	o.Owner, o.Done, o.ID = c.Owner, 0, len(r.all)+1
	in := r.place(o.Symbol)
	switch {
	case c.Owner <= 0 || !msg.IsID(c.O.Name):
		return api.ErrArg
	case in == -1:
		return api.ErrSymbol
	case r.accounts[o.Account] == nil:
		return api.ErrAccount
	}
	for _, ask := range []func() api.Errno{
		func() api.Errno { return r.refusesName(o.Owner, o.Name) },
		func() api.Errno { return r.fits(o, in) },
		func() api.Errno { return r.mayGo(o, in) },
	} {
		if err := ask(); err != api.OK {
			return err
		}
	}
	x := &readOrder{o: o, in: in, where: "over"}
	if o.Type >= api.Stop {
		if r.count(in, "stops") == 200 {
			return api.ErrMany
		}
		x.where, x.rank = "stops", r.newRank()
	} else if err := r.refuses(x); err != api.OK {
		r.sayOf(api.EvRejected, o, api.Fill{}, err)
		return api.OK
	}
	r.all = append(r.all, x)
	r.used[readPair(o.Owner, o.Name)] = true
	r.sayOf(api.EvAccepted, o, api.Fill{}, api.OK)
	switch {
	case o.Type >= api.Stop:
		r.guards(x)
		r.lastWakes(in)
	case r.ins[in].phase == api.Trading:
		r.row(in, r.woken(in, r.comes(x)))
	default:
		r.waits(x)
		r.guards(x)
	}
	return api.OK
}

// refuses is why a book does not take an order that its listing took.
func (r *reading) refuses(x *readOrder) api.Errno {
	brief := x.o.Life == api.IOC || x.o.Life == api.FOK
	full := r.count(x.in, "book") == 500
	if r.ins[x.in].phase != api.Trading {
		if full {
			return api.ErrMany
		}
		return api.OK
	}
	if full && x.o.Type == api.Limit && !brief {
		return api.ErrMany
	}
	if x.o.Life == api.PostOnly && r.partner(x) != nil {
		return api.ErrCross
	}
	need, have := x.o.Least, int64(0)
	if x.o.Life == api.FOK {
		need = x.o.Qty
	}
	for _, y := range r.all {
		if r.meets(x, y) && y.o.Account != x.o.Account {
			have += y.o.Qty
		}
	}
	if have < need {
		return api.ErrFill
	}
	return api.OK
}

// meets tells whether y waits at a price that suits x.
func (r *reading) meets(x, y *readOrder) bool {
	if y.where != "book" || y.in != x.in || y.o.Side == x.o.Side || y.o.Type == api.Market {
		return false
	}
	return x.o.Type == api.Market || x.o.Side == api.Buy && y.o.Price <= x.o.Price || x.o.Side == api.Sell && y.o.Price >= x.o.Price
}

// partner is the one that is ahead of all that x meets.
func (r *reading) partner(x *readOrder) *readOrder {
	var best *readOrder
	for _, y := range r.all {
		switch {
		case !r.meets(x, y):
		case best == nil,
			y.o.Price == best.o.Price && y.rank < best.rank,
			y.o.Price != best.o.Price && (y.o.Price < best.o.Price) == (x.o.Side == api.Buy):
			best = y
		}
	}
	return best
}

func readShown(o api.Order) int64 {
	if o.Show > 0 && o.Show < o.Qty {
		return o.Show
	}
	return o.Qty
}

func (r *reading) waits(x *readOrder) {
	x.where, x.rank, x.shown = "book", r.newRank(), readShown(x.o)
}

// trades lets two orders trade, and tells of it.
func (r *reading) trades(x, y *readOrder, taker int, price, qty int64) {
	if x.o.Side == api.Sell {
		x, y = y, x
	}
	for _, z := range []*readOrder{x, y} {
		z.o.Qty -= qty
		z.o.Done += qty
	}
	r.accounts[x.o.Account].position[x.o.Symbol] += qty
	r.accounts[y.o.Account].position[y.o.Symbol] -= qty
	r.ins[x.in].last = price
	f := api.Fill{Buy: x.o.ID, Sell: y.o.ID, Taker: taker, Price: price, Qty: qty}
	r.sayOf(api.EvTrade, x.o, f, api.OK)
	r.sayOf(api.EvTrade, y.o, f, api.OK)
}

// gives is what becomes of an order that waited, and has traded.
func (r *reading) gives(y *readOrder, qty int64, ranks bool) {
	y.shown = max(0, y.shown-qty)
	switch {
	case y.o.Qty == 0:
		y.where = "over"
	case y.shown == 0:
		y.shown = readShown(y.o)
		if ranks {
			y.rank = r.newRank()
		}
	}
}

// comes lets an order trade and wait; gives the prices at which it has traded.
func (r *reading) comes(x *readOrder) []int64 {
	var prices []int64
	x.where = "over"
	touched := []*readOrder{x}
	for y := r.partner(x); y != nil && x.o.Qty > 0; y = r.partner(x) {
		touched = append(touched, y)
		if y.o.Account == x.o.Account {
			y.where = "over"
			r.sayOf(api.EvCancelled, y.o, api.Fill{}, api.OK)
			continue
		}
		price, qty := y.o.Price, min(x.o.Qty, y.shown)
		r.trades(x, y, x.o.Side, price, qty)
		r.gives(y, qty, true)
		prices = append(prices, price)
	}
	if x.o.Qty > 0 {
		if x.o.Type == api.Limit && x.o.Life != api.IOC && x.o.Life != api.FOK {
			r.waits(x)
		} else {
			r.sayOf(api.EvCancelled, x.o, api.Fill{}, api.OK)
		}
	}
	r.guards(touched...)
	return prices
}

// woken takes those stops out that come alive by trades.
func (r *reading) woken(in int, prices []int64) []*readOrder {
	var row []*readOrder
	if r.ins[in].phase != api.Trading {
		return nil
	}
	for _, price := range prices {
		var l []*readOrder
		for _, x := range r.all {
			if x.in == in && x.where == "stops" && (x.o.Side == api.Buy && price >= x.o.Stop || x.o.Side == api.Sell && price <= x.o.Stop) {
				l = append(l, x)
			}
		}
		sort.Slice(l, func(a, b int) bool { return l[a].rank < l[b].rank })
		for _, x := range l {
			x.where = "row"
			x.o.Type = 5 - x.o.Type // Stop, 3, becomes Market, 2; StopLimit, 4, becomes Limit, 1
			row = append(row, x)
		}
	}
	return row
}

func (r *reading) lastWakes(in int) {
	if last := r.ins[in].last; last != 0 {
		r.row(in, r.woken(in, []int64{last}))
	}
}

func (r *reading) row(in int, row []*readOrder) {
	for len(row) > 0 {
		x := row[0]
		row = row[1:]
		r.sayOf(api.EvTriggered, x.o, api.Fill{}, api.OK)
		x.open = false
		if err := r.refuses(x); err != api.OK {
			x.where = "over"
			r.sayOf(api.EvCancelled, x.o, api.Fill{}, err)
			continue
		}
		row = append(row, r.woken(in, r.comes(x))...)
	}
}

// cancel is DoCancel of an order that lives.
func (r *reading) cancel(x *readOrder) {
	x.where = "over"
	r.sayOf(api.EvCancelled, x.o, api.Fill{}, api.OK)
	r.guards(x)
}

// doReplace is E4's.
func (r *reading) doReplace(c api.Command) api.Errno {
	x := r.find(c.Owner, c.Name)
	if x == nil {
		return api.ErrNone
	}
	stop := x.o.Type == api.Stop || x.o.Type == api.StopLimit
	a := x.o
	if c.O.Price != 0 {
		a.Price = c.O.Price
	}
	switch {
	case c.O.Stop != 0:
		a.Stop = c.O.Stop
	case !stop:
		a.Stop = 0
	}
	if !msg.IsID(c.O.Name) || c.O.Qty <= x.o.Done || c.O.Qty > x.o.Done+1000000 {
		return api.ErrArg
	}
	a.Qty = c.O.Qty - x.o.Done
	if err := r.refusesName(c.Owner, c.O.Name); err != api.OK {
		return err
	}
	i := r.ins[x.in]
	if i.phase == api.Closed || i.phase == api.Opening || i.phase == api.Halted {
		return api.ErrPhase
	}
	asked := a
	asked.Qty, asked.Show, asked.Least = c.O.Qty, min(a.Show, c.O.Qty), min(a.Least, c.O.Qty)
	if i.phase != api.Trading {
		asked.Least = 0
	}
	if err := r.fits(asked, x.in); err != api.OK {
		return err
	}
	if err := r.mayGo(a, x.in); err != api.OK {
		return err
	}
	if stop {
		r.replacesStop(x, a, c.O.Name)
		return api.OK
	}
	return r.replacesBooked(x, a, c.O.Name)
}

func (r *reading) renamed(x *readOrder, name string) {
	x.o.Name = name
	r.used[readPair(x.o.Owner, name)] = true
}

func (r *reading) replacesStop(x *readOrder, a api.Order, name string) {
	if a.Stop != x.o.Stop || a.Price != x.o.Price || a.Qty > x.o.Qty {
		x.rank = r.newRank()
	}
	x.o = a
	r.renamed(x, name)
	r.sayOf(api.EvReplaced, x.o, api.Fill{}, api.OK)
	r.guards(x)
	r.lastWakes(x.in)
}

func (r *reading) replacesBooked(x *readOrder, a api.Order, name string) api.Errno {
	trading := r.ins[x.in].phase == api.Trading
	stays := a.Price == x.o.Price && a.Qty <= x.o.Qty
	to := x.o
	if !trading && !stays {
		to.Stop = a.Stop // it rests anew as A, where a Replace of the book leaves Stop alone
	}
	to.Price, to.Qty, to.Show, to.Least = a.Price, a.Qty, min(x.o.Show, a.Qty), min(x.o.Least, a.Qty)
	if trading && !stays && x.o.Life == api.PostOnly && r.partner(&readOrder{o: to, in: x.in}) != nil {
		return api.ErrCross
	}
	x.o = to
	r.renamed(x, name)
	r.sayOf(api.EvReplaced, x.o, api.Fill{}, api.OK)
	switch {
	case stays:
		x.shown = min(x.shown, x.o.Qty)
		r.guards(x)
	case trading:
		r.row(x.in, r.woken(x.in, r.comes(x)))
	default:
		r.waits(x)
		r.guards(x)
	}
	return api.OK
}

// cancels cancels the orders that live and are meant, by instruments; those of one stand in the list by their numbers.
func (r *reading) cancels(means func(o api.Order) bool) int {
	n := 0
	for in := range r.ins {
		for _, x := range r.all {
			if x.in == in && (x.where == "book" || x.where == "stops") && means(x.o) {
				r.cancel(x)
				n++
			}
		}
	}
	return n
}

// doMass is E5.
func (r *reading) doMass(c api.Command) api.Errno {
	w := c.O
	switch {
	case w.Side < 0 || w.Side > 2:
		return api.ErrArg
	case w.Symbol != "" && r.place(w.Symbol) < 0:
		return api.ErrSymbol
	case w.Account != "" && r.accounts[w.Account] == nil:
		return api.ErrAccount
	}
	n := r.cancels(func(o api.Order) bool {
		if w.Symbol == "" {
			o.Symbol = ""
		}
		if w.Account == "" {
			o.Account = ""
		}
		if w.Side == 0 {
			o.Side = 0
		}
		return o.Owner == c.Owner && o.Symbol == w.Symbol && o.Account == w.Account && o.Side == w.Side
	})
	r.say(api.Event{Kind: api.EvMass, Owner: c.Owner, Name: w.Name, Symbol: w.Symbol, O: w, Count: n})
	return api.OK
}

// doHalt is E6's DoHalt and DoResume.
func (r *reading) doHalt(on bool, in int) api.Errno {
	if in < 0 {
		return api.ErrSymbol
	}
	i := r.ins[in]
	if i.held == on {
		return api.ErrState
	}
	if !on {
		i.held = false
		phase, _ := i.rules.Phase(r.now)
		r.enters(in, phase, r.now)
		return api.OK
	}
	if i.phase == api.Closed {
		return api.ErrPhase
	}
	i.held = true
	r.enters(in, api.Halted, r.now)
	return api.OK
}

func (r *reading) doKill(c api.Command) api.Errno {
	a := r.accounts[c.Account.Name]
	if a == nil {
		return api.ErrAccount
	}
	a.stopped = c.O.Side == 0
	if a.stopped {
		n := r.cancels(func(o api.Order) bool { return o.Account == c.Account.Name })
		r.say(api.Event{Kind: api.EvMass, O: api.Order{Account: c.Account.Name}, Count: n})
	}
	return api.OK
}

func (r *reading) doLimits(a api.Account) api.Errno {
	low := min(a.Order, a.Open, a.Position, int64(a.Burst), int64(a.Per))
	if !msg.IsName(a.Name) || low < 0 || max(a.Order, a.Open, a.Position) > 1e18 || a.Burst > 1000 || a.Per > 86400000 {
		return api.ErrArg
	}
	if r.accounts[a.Name] == nil {
		if len(r.accounts) == 16 {
			return api.ErrMany
		}
		r.accounts[a.Name] = &readAccount{position: map[string]int64{}}
	}
	r.accounts[a.Name].limits = a
	return api.OK
}

type readPoint struct{ price, bought, sold int64 }

func (p readPoint) traded() int64 { return min(p.bought, p.sold) }

func (p readPoint) over() int64 { return max(p.bought, p.sold) - p.traded() }

// at gives the orders of a side that would trade at a price, the one that is ahead first; of alike ones that of the lesser number.
func (r *reading) at(in, side int, price int64) []*readOrder {
	var l []*readOrder
	for _, x := range r.all {
		if x.in == in && x.where == "book" && x.o.Side == side && (x.o.Type == api.Market || x.o.Price == price || (x.o.Price > price) == (side == api.Buy)) {
			l = append(l, x)
		}
	}
	key := func(x *readOrder) int64 {
		switch {
		case x.o.Type == api.Market:
			return -2000000000
		case side == api.Buy:
			return -x.o.Price
		}
		return x.o.Price
	}
	sort.SliceStable(l, func(a, b int) bool { return key(l[a]) < key(l[b]) })
	return l
}

func (r *reading) point(in int, price int64) readPoint {
	p := readPoint{price: price}
	for _, x := range r.at(in, api.Buy, price) {
		p.bought += x.o.Qty
	}
	for _, x := range r.at(in, api.Sell, price) {
		p.sold += x.o.Qty
	}
	return p
}

// best keeps of some points those at which a number is the greatest.
func best(l []readPoint, number func(p readPoint) int64) []readPoint {
	var kept []readPoint
	for _, p := range l {
		if len(kept) > 0 && number(p) > number(kept[0]) {
			kept = nil
		}
		if len(kept) == 0 || number(p) == number(kept[0]) {
			kept = append(kept, p)
		}
	}
	return kept
}

// price is chapter 13's, U1 to U4.
func (r *reading) price(in int) readPoint {
	ref := r.ins[in].ref
	l := []readPoint{r.point(in, ref)}
	for _, x := range r.all {
		if x.in == in && x.where == "book" && x.o.Type != api.Market {
			l = append(l, r.point(in, x.o.Price))
		}
	}
	l = best(l, readPoint.traded)
	l = best(l, func(p readPoint) int64 { return -p.over() })
	bought, sold := 0, 0
	for _, p := range l {
		if p.bought > p.sold {
			bought++
		}
		if p.sold > p.bought {
			sold++
		}
	}
	greatest := func(p readPoint) int64 { return p.price }
	switch len(l) {
	case bought:
	case sold:
		greatest = func(p readPoint) int64 { return -p.price }
	default:
		l = best(l, func(p readPoint) int64 { return -max(p.price-ref, ref-p.price) })
	}
	return best(l, greatest)[0]
}

// auction is E8.
func (r *reading) auction(in int) {
	i := r.ins[in]
	p := r.price(in)
	left := p.traded()
	if left == 0 {
		return
	}
	side := 0
	switch {
	case p.bought > p.sold:
		side = api.Buy
	case p.bought < p.sold:
		side = api.Sell
	}
	r.say(api.Event{Kind: api.EvAuction, Symbol: i.i.Symbol, Level: api.Level{Price: p.price, Qty: left}, F: api.Fill{Qty: p.over()}, Side: side})
	buys, sells := r.at(in, api.Buy, p.price), r.at(in, api.Sell, p.price)
	touched := slices.Concat(buys, sells)
	was := map[*readOrder]int64{}
	for _, x := range touched {
		was[x] = x.o.Done
	}
	for left > 0 {
		qty := min(left, buys[0].o.Qty, sells[0].o.Qty)
		left -= qty
		x, y := buys[0], sells[0]
		r.trades(x, y, 0, p.price, qty)
		r.gives(x, qty, false)
		r.gives(y, qty, false)
		if x.o.Qty == 0 {
			buys = buys[1:]
		}
		if y.o.Qty == 0 {
			sells = sells[1:]
		}
	}
	for _, x := range touched {
		if x.o.Done != was[x] {
			r.guards(x)
		}
	}
	i.ref = p.price
}

// enters is E9's TO ENTER.
func (r *reading) enters(in, phase int, t int64) {
	i := r.ins[in]
	turn := func(phase int) {
		i.phase = phase
		r.say(api.Event{Kind: api.EvPhase, Symbol: i.i.Symbol, Phase: phase})
	}
	switch phase {
	case api.Trading:
		turn(api.Opening)
		r.auction(in)
		r.expires(in, func(o api.Order) bool { return o.Life == api.AtOpen })
		turn(api.Trading)
		r.lastWakes(in)
	case api.Closed:
		if i.phase == api.Closing {
			r.auction(in)
		}
		turn(api.Closed)
		if i.last != 0 {
			i.ref = i.last
		}
		if t > 0 {
			t--
		}
		date, _ := clock.DateOf(t)
		r.expires(in, func(o api.Order) bool {
			return o.Life == api.Day || o.Life == api.PostOnly || o.Life == api.AtOpen || o.Life == api.GTD && !(o.Until > date)
		})
	default:
		turn(phase)
	}
}

func (r *reading) expires(in int, means func(o api.Order) bool) {
	for _, x := range r.all {
		if x.in == in && (x.where == "book" || x.where == "stops") && means(x.o) {
			x.where = "over"
			r.sayOf(api.EvExpired, x.o, api.Fill{}, api.OK)
			r.guards(x)
		}
	}
}

// pass is E9's TIME PASSES: it goes through all minutes of all days.
func (r *reading) pass(t int64) {
	const day, minute = 86400000, 60000
	from := r.now
	if !r.begun || t-r.now > 31*day {
		for in, i := range r.ins {
			if i.phase != api.Closed {
				i.held = false
				r.enters(in, api.Closed, r.now)
			}
		}
		from = t - t%day - 1
	}
	for at := (from + minute) / minute * minute; at <= t; at += minute {
		if r.turnsAt(at) {
			r.turn(at)
		}
	}
	r.now, r.begun = t, true
}

// turnsAt tells whether a day begins, or a turn of an instrument on a day of trade (of which listing.Phase tells, a millisecond ahead, when it begins).
func (r *reading) turnsAt(at int64) bool {
	const day = 86400000
	if at%day == 0 {
		return true
	}
	for _, i := range r.ins {
		for _, x := range i.i.Turns {
			if at%day == int64(x.Minute)*60000 {
				_, next := i.rules.Phase(at - 1)
				return next == at
			}
		}
	}
	return false
}

func (r *reading) turn(at int64) {
	for in, i := range r.ins {
		q, _ := i.rules.Phase(at)
		switch {
		case i.held && q == api.Closed:
			i.held = false
			r.enters(in, api.Closed, at)
		case i.held:
		case q != i.phase:
			r.enters(in, q, at)
		}
	}
}
