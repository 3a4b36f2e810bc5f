package book

import (
	"fmt"
	"maps"
	"math"
	"math/rand"
	"slices"
	"strconv"
	"testing"

	"outcry/api"
)

// A second reading of the chapter, by other means, against which the package is held: all orders of both sides stand in one list, in no order; who is ahead is looked for among all of them each time; levels stand in a map by side and price.

type readOrder struct {
	o     api.Order
	shown int64
	rank  int
}

type readKey struct {
	side  int
	price int64
}

type reading struct {
	symbol string
	list   []*readOrder
	rank   int
	last   int64
	told   map[readKey]api.Level
}

func (r *reading) find(id int) *readOrder {
	for _, x := range r.list {
		if x.o.ID == id {
			return x
		}
	}
	return nil
}

func (r *reading) drop(x *readOrder) {
	i := slices.Index(r.list, x)
	r.list[i] = r.list[len(r.list)-1]
	r.list = r.list[:len(r.list)-1]
}

func (r *reading) newRank() int {
	r.rank++
	return r.rank
}

func readShown(o api.Order) int64 {
	if o.Show == 0 || o.Show > o.Qty {
		return o.Qty
	}
	return o.Show
}

func (r *reading) wait(o api.Order) {
	r.list = append(r.list, &readOrder{o, readShown(o), r.newRank()})
}

// give is the chapter's, but that it does not give a new rank of itself.
func (r *reading) give(x *readOrder, q int64, ranks bool) {
	x.o.Qty -= q
	x.o.Done += q
	x.shown -= q
	if x.shown < 0 {
		x.shown = 0
	}
	if x.o.Qty == 0 {
		r.drop(x)
	} else if x.shown == 0 {
		x.shown = readShown(x.o)
		if ranks {
			x.rank = r.newRank()
		}
	}
}

func readAhead(x, y *readOrder) bool {
	if mx, my := x.o.Type == api.Market, y.o.Type == api.Market; mx != my {
		return mx
	}
	if x.o.Price != y.o.Price {
		return (x.o.Price > y.o.Price) == (x.o.Side == api.Buy)
	}
	return x.rank < y.rank
}

func readSuits(p int64, o api.Order) bool {
	return o.Type == api.Market || o.Side == api.Buy && p <= o.Price || o.Side == api.Sell && p >= o.Price
}

// first gives the one that is ahead of all of the other side that have a price which suits; nil, if there is none.
func (r *reading) first(o api.Order) *readOrder {
	var first *readOrder
	for _, x := range r.list {
		if x.o.Side != o.Side && x.o.Type != api.Market && readSuits(x.o.Price, o) && (first == nil || readAhead(x, first)) {
			first = x
		}
	}
	return first
}

func (r *reading) event(kind int, o api.Order, f api.Fill, e api.Errno) api.Event {
	return api.Event{Kind: kind, Symbol: r.symbol, Owner: o.Owner, Name: o.Name, O: o, Side: o.Side, F: f, Err: e}
}

func (r *reading) plain(kind int, o api.Order) api.Event {
	return r.event(kind, o, api.Fill{}, api.OK)
}

// k3 is the loop of K3.
func (r *reading) k3(o *api.Order) []api.Event {
	var l []api.Event
	for o.Qty > 0 {
		x := r.first(*o)
		if x == nil {
			break
		}
		if x.o.Account == o.Account {
			r.drop(x)
			l = append(l, r.plain(api.EvCancelled, x.o))
			continue
		}
		q := x.shown
		if o.Qty < q {
			q = o.Qty
		}
		o.Qty, o.Done = o.Qty-q, o.Done+q
		r.give(x, q, true)
		r.last = x.o.Price
		f := api.Fill{Buy: o.ID, Sell: x.o.ID, Taker: o.Side, Price: x.o.Price, Qty: q}
		mine := r.event(api.EvTrade, *o, f, api.OK)
		if o.Side == api.Buy {
			l = append(l, mine, r.event(api.EvTrade, x.o, f, api.OK))
			continue
		}
		f.Buy, f.Sell = f.Sell, f.Buy
		mine.F = f
		l = append(l, r.event(api.EvTrade, x.o, f, api.OK), mine)
	}
	return l
}

// refused gives the first refusal of Add (rests: of Rest).
func (r *reading) refused(o api.Order, rests bool) api.Errno {
	if o.ID < 1 || o.Symbol != r.symbol || len(o.Account) == 0 || o.Side < 1 || o.Side > 2 || o.Qty < 1 || o.Qty > 1000000 || o.Done < 0 || o.Done > 1000000 ||
		o.Show < 0 || o.Show > o.Qty || o.Show != 0 && o.Show*100 < o.Qty || o.Least < 0 || o.Least > o.Qty || o.Life < 1 || o.Life > 7 {
		return api.ErrArg
	}
	if o.Type != 1 && o.Type != 2 || o.Type == 1 && (o.Price < 1 || o.Price > 1000000000) || o.Type == 2 && (o.Price != 0 || o.Life == api.PostOnly) {
		return api.ErrType
	}
	brief := o.Life == api.IOC || o.Life == api.FOK
	if !rests && o.Life == api.AtOpen || rests && brief {
		return api.ErrType
	}
	if r.find(o.ID) != nil {
		return api.ErrKnown
	}
	if len(r.list) >= 500 && (rests || o.Type == api.Limit && !brief) {
		return api.ErrMany
	}
	if rests {
		return api.OK
	}
	if o.Life == api.PostOnly && r.first(o) != nil {
		return api.ErrCross
	}
	var have int64
	for _, x := range r.list {
		if x.o.Side != o.Side && x.o.Type != api.Market && readSuits(x.o.Price, o) && x.o.Account != o.Account {
			have += x.o.Qty
		}
	}
	if o.Life == api.FOK && have < o.Qty || o.Life != api.FOK && have < o.Least {
		return api.ErrFill
	}
	return api.OK
}

func (r *reading) add(o api.Order) []api.Event {
	if e := r.refused(o, false); e != api.OK {
		return []api.Event{r.event(api.EvRejected, o, api.Fill{}, e)}
	}
	l := append([]api.Event{r.plain(api.EvAccepted, o)}, r.k3(&o)...)
	if o.Qty == 0 {
		return l
	}
	if o.Type == api.Market || o.Life == api.IOC || o.Life == api.FOK {
		return append(l, r.plain(api.EvCancelled, o))
	}
	r.wait(o)
	return l
}

func (r *reading) rest(o api.Order) []api.Event {
	if e := r.refused(o, true); e != api.OK {
		return []api.Event{r.event(api.EvRejected, o, api.Fill{}, e)}
	}
	r.wait(o)
	return []api.Event{r.plain(api.EvAccepted, o)}
}

func (r *reading) cancel(id int) ([]api.Event, api.Errno) {
	x := r.find(id)
	if x == nil {
		return nil, api.ErrNone
	}
	r.drop(x)
	return []api.Event{r.plain(api.EvCancelled, x.o)}, api.OK
}

func (r *reading) replace(id int, price, qty int64) ([]api.Event, api.Errno) {
	x := r.find(id)
	if x == nil {
		return nil, api.ErrNone
	}
	if qty < 1 || qty > 1000000 || x.o.Type == api.Market && price != 0 || x.o.Type == api.Limit && (price < 1 || price > 1000000000) || x.o.Show != 0 && x.o.Show*100 < qty {
		return nil, api.ErrArg
	}
	o := x.o
	o.Price, o.Qty = price, qty
	if o.Show > qty {
		o.Show = qty
	}
	if o.Least > qty {
		o.Least = qty
	}
	if price == x.o.Price && qty <= x.o.Qty {
		x.o = o
		if x.shown > qty {
			x.shown = qty
		}
		return []api.Event{r.plain(api.EvReplaced, o)}, api.OK
	}
	if o.Life == api.PostOnly && r.first(o) != nil {
		return nil, api.ErrCross
	}
	r.drop(x)
	l := append([]api.Event{r.plain(api.EvReplaced, o)}, r.k3(&o)...)
	if o.Qty > 0 {
		r.wait(o)
	}
	return l, api.OK
}

func (r *reading) fill(fills []api.Fill) []api.Event {
	var l []api.Event
	for _, f := range fills {
		x, y := r.find(f.Buy), r.find(f.Sell)
		if f.Qty < 1 || f.Qty > 1000000 || f.Price < 1 || f.Price > 1000000000 || x == nil || y == nil || x.o.Side != api.Buy || y.o.Side != api.Sell || x.o.Qty < f.Qty || y.o.Qty < f.Qty {
			continue
		}
		f.Taker = 0
		r.give(x, f.Qty, false)
		r.give(y, f.Qty, false)
		r.last = f.Price
		l = append(l, r.event(api.EvTrade, x.o, f, api.OK), r.event(api.EvTrade, y.o, f, api.OK))
	}
	return l
}

func (r *reading) orders(side int) []api.Order {
	var row []*readOrder
	for _, x := range r.list {
		if x.o.Side == side {
			row = append(row, x)
		}
	}
	slices.SortFunc(row, func(x, y *readOrder) int {
		if readAhead(x, y) {
			return -1
		}
		return 1
	})
	var l []api.Order
	for _, x := range row {
		l = append(l, x.o)
	}
	return l
}

func (r *reading) levels() map[readKey]api.Level {
	m := map[readKey]api.Level{}
	for _, x := range r.list {
		if x.o.Type == api.Market {
			continue
		}
		k := readKey{x.o.Side, x.o.Price}
		m[k] = api.Level{Price: x.o.Price, Qty: m[k].Qty + x.shown, Orders: m[k].Orders + 1}
	}
	return m
}

// sorted gives the keys of a side, the best price first.
func sorted(m map[readKey]api.Level, side int) []readKey {
	l := slices.DeleteFunc(slices.Collect(maps.Keys(m)), func(k readKey) bool { return k.side != side })
	slices.SortFunc(l, func(a, b readKey) int {
		if side == api.Buy {
			return int(b.price - a.price)
		}
		return int(a.price - b.price)
	})
	return l
}

func (r *reading) depth(side, most int) []api.Level {
	var l []api.Level
	m := r.levels()
	for _, k := range sorted(m, side) {
		if len(l) < most {
			l = append(l, m[k])
		}
	}
	return l
}

func (r *reading) changed() []api.Event {
	var l []api.Event
	now := r.levels()
	both := maps.Clone(now)
	maps.Copy(both, r.told)
	for _, side := range []int{api.Buy, api.Sell} {
		for _, k := range sorted(both, side) {
			is := now[k]
			is.Price = k.price
			if _, was := r.told[k]; !was || r.told[k] != is {
				l = append(l, api.Event{Kind: api.EvLevel, Symbol: r.symbol, Side: side, Level: is})
			}
		}
	}
	r.told = now
	return l
}

// walk does the same things to a book and to the reading, and holds what they tell against each other.
type walk struct {
	t      testing.TB
	rnd    *rand.Rand
	b      *Book
	r      *reading
	ids    int               // numbers that were used
	public map[readKey]int64 // what one knows who puts what Changed tells over what there was
	seen   map[string]int
}

func newWalk(t testing.TB, seed int64) *walk {
	return &walk{t: t, rnd: rand.New(rand.NewSource(seed)), b: New("ABC"), r: &reading{symbol: "ABC"}, public: map[readKey]int64{}, seen: map[string]int{}}
}

func (w *walk) pick(l ...int64) int64 { return l[w.rnd.Intn(len(l))] }

// order is one that may come, mostly.
func (w *walk) order() api.Order {
	w.ids++
	o := api.Order{
		ID: w.ids, Name: "n" + strconv.Itoa(w.ids), Account: string("ABC"[w.rnd.Intn(3)]), Symbol: "ABC", Side: 1 + w.rnd.Intn(2), Type: api.Limit,
		Life: int(w.pick(1, 1, 1, 1, 2, 3, 4, 5, 6, 7)), Price: 10 + w.rnd.Int63n(6), Qty: 1 + w.rnd.Int63n(30), Owner: w.rnd.Intn(3), Stop: w.pick(0, 5), Until: 3, Done: w.pick(0, 0, 4),
	}
	if w.rnd.Intn(3) == 0 {
		o.Show = 1 + w.rnd.Int63n(min(o.Qty, 7))
	}
	if w.rnd.Intn(6) == 0 {
		o.Least = w.rnd.Int63n(o.Qty + 1)
	}
	if w.rnd.Intn(8) == 0 {
		o.Type, o.Price = api.Market, 0
	}
	if w.rnd.Intn(30) == 0 {
		o.ID = w.some()
	}
	if w.rnd.Intn(12) == 0 {
		w.spoil(&o)
	}
	return o
}

func (w *walk) spoil(o *api.Order) {
	wild := w.pick(math.MinInt64, -1, 0, 1, 2, 3, 100, 101, api.MaxQty, api.MaxQty+1, api.MaxPrice, api.MaxPrice+1, math.MaxInt64)
	switch w.rnd.Intn(11) {
	case 0:
		o.ID = int(wild)
	case 1:
		o.Symbol = string("ABCD"[:w.rnd.Intn(5)])
	case 2:
		o.Account = ""
	case 3:
		o.Side = int(wild)
	case 4:
		o.Qty = wild
	case 5:
		o.Done = wild
	case 6:
		o.Show = wild
	case 7:
		o.Least = wild
	case 8:
		o.Life = int(wild)
	case 9:
		o.Type = int(wild)
	case 10:
		o.Price = wild
	}
}

// some is the number of an order that waits, mostly.
func (w *walk) some() int {
	if len(w.r.list) == 0 || w.rnd.Intn(10) == 0 {
		return w.rnd.Intn(w.ids + 2)
	}
	return w.r.list[w.rnd.Intn(len(w.r.list))].o.ID
}

func (w *walk) replace() string {
	id, price, qty := w.some(), 10+w.rnd.Int63n(6), 1+w.rnd.Int63n(30)
	if x := w.r.find(id); x != nil {
		if x.o.Type == api.Market || w.rnd.Intn(3) == 0 {
			price = x.o.Price
		}
		if w.rnd.Intn(3) == 0 {
			qty = x.o.Qty + w.rnd.Int63n(3) - 1
		}
	}
	if w.rnd.Intn(20) == 0 {
		price = w.pick(math.MinInt64, -1, 0, 1, api.MaxPrice, api.MaxPrice+1, math.MaxInt64)
	}
	if w.rnd.Intn(20) == 0 {
		qty = w.pick(math.MinInt64, -1, 0, 1, 99, 100, 101, 700, 701, api.MaxQty, api.MaxQty+1, math.MaxInt64)
	}
	got, e := w.b.Replace(id, price, qty)
	want, f := w.r.replace(id, price, qty)
	what := fmt.Sprintf("Replace(%d, %d, %d)", id, price, qty)
	if e != f {
		w.t.Fatalf("%s: %d, want %d", what, e, f)
	}
	w.seen["replace "+strconv.Itoa(int(e))]++
	w.hold(what, got, want)
	return what
}

func (w *walk) fill() string {
	var l []api.Fill
	for range w.rnd.Intn(5) {
		f := api.Fill{Buy: w.some(), Sell: w.some(), Taker: w.rnd.Intn(3), Price: 9 + w.rnd.Int63n(8), Qty: 1 + w.rnd.Int63n(9)}
		if w.rnd.Intn(10) == 0 {
			f.Qty, f.Price = w.pick(math.MinInt64, 0, 1, api.MaxQty+1), w.pick(math.MinInt64, 0, 1, api.MaxPrice+1)
		}
		l = append(l, f)
	}
	w.hold(fmt.Sprintf("Fill(%+v)", l), w.b.Fill(l), w.r.fill(l))
	return "Fill"
}

// hold holds what was told against what the reading tells.
func (w *walk) hold(what string, got, want []api.Event) {
	w.t.Helper()
	if !slices.Equal(got, want) {
		w.t.Fatalf("%s:\n%+v, want\n%+v", what, got, want)
	}
	for _, x := range got {
		w.seen["event "+strconv.Itoa(x.Kind)+" "+strconv.Itoa(int(x.Err))]++
	}
}

func (w *walk) step() {
	switch n := w.rnd.Intn(20); {
	case n < 10:
		o := w.order()
		w.hold(fmt.Sprintf("Add(%+v)", o), w.b.Add(o), w.r.add(o))
	case n < 13:
		o := w.order()
		w.hold(fmt.Sprintf("Rest(%+v)", o), w.b.Rest(o), w.r.rest(o))
	case n < 14:
		id := w.some()
		got, e := w.b.Cancel(id)
		want, f := w.r.cancel(id)
		if e != f {
			w.t.Fatalf("Cancel(%d): %d, want %d", id, e, f)
		}
		w.hold("Cancel", got, want)
	case n < 18:
		w.replace()
	default:
		w.fill()
	}
	if w.rnd.Intn(3) == 0 {
		w.changed()
	}
	w.ask()
}

// changed holds what Changed tells, and that it leads to Depth.
func (w *walk) changed() {
	got := w.b.Changed()
	w.hold("Changed", got, w.r.changed())
	for _, x := range got {
		k := readKey{x.Side, x.Level.Price}
		w.public[k] = x.Level.Qty<<16 | int64(x.Level.Orders)
		if x.Level.Orders == 0 {
			delete(w.public, k)
		}
	}
	known := map[readKey]int64{}
	for _, side := range []int{api.Buy, api.Sell} {
		for _, x := range w.b.Depth(side, 1000) {
			known[readKey{side, x.Price}] = x.Qty<<16 | int64(x.Orders)
		}
	}
	if !maps.Equal(known, w.public) {
		w.t.Fatalf("Changed leads to %v, Depth is %v", w.public, known)
	}
}

func (w *walk) ask() {
	for side := 0; side <= 3; side++ {
		if got, want := w.b.Orders(side), w.r.orders(side); !slices.Equal(got, want) {
			w.t.Fatalf("Orders(%d):\n%+v, want\n%+v", side, got, want)
		}
		most := int(w.pick(-1, 0, 1, 2, 3, 100, 100, 100))
		if got, want := w.b.Depth(side, most), w.r.depth(side, most); !slices.Equal(got, want) {
			w.t.Fatalf("Depth(%d, %d): %v, want %v", side, most, got, want)
		}
		var best int64
		for _, x := range w.r.depth(side, 1) {
			best = x.Price
		}
		if got := w.b.Best(side); got != best {
			w.t.Fatalf("Best(%d): %d, want %d", side, got, best)
		}
	}
	if w.b.Last() != w.r.last {
		w.t.Fatalf("Last: %d, want %d", w.b.Last(), w.r.last)
	}
	id := w.some()
	o, e := w.b.Order(id)
	if x := w.r.find(id); x == nil && (e != api.ErrNone || o != (api.Order{})) || x != nil && (e != api.OK || o != x.o) {
		w.t.Fatalf("Order(%d): %+v, %d", id, o, e)
	}
}

func TestAgainstTheReading(t *testing.T) {
	seen := map[string]int{}
	for seed := range int64(300) {
		w := newWalk(t, seed)
		for range 200 {
			w.step()
		}
		for k, n := range w.seen {
			seen[k] += n
		}
	}
	for _, k := range []string{"event 1 0", "event 2 1", "event 2 105", "event 2 120", "event 2 123", "event 2 124", "event 3 0", "event 4 0", "event 5 0", "event 9 0", "replace 0", "replace 1", "replace 121", "replace 123"} {
		if seen[k] < 100 {
			t.Errorf("%s was met %d times alone: %v", k, seen[k], seen)
		}
	}
}

// Books that are full, and go on from there.
func TestAgainstTheReadingFull(t *testing.T) {
	for seed := range int64(4) {
		w := newWalk(t, seed)
		for range 30 {
			for len(w.r.list) < api.MaxOrders {
				o := w.order()
				w.hold("Rest", w.b.Rest(o), w.r.rest(o))
			}
			for range 6 {
				w.step()
			}
		}
		if w.seen["event 2 122"] < 10 {
			t.Error("nobody met a full book")
		}
	}
}

// All rows of three orders on one side, and of one that comes on the other, with few prices, parts and accounts.
func TestAllSmallBooks(t *testing.T) {
	type kind struct {
		price, show int64
		account     string
	}
	var kinds []kind
	for _, price := range []int64{0, 1, 2} {
		for _, show := range []int64{0, 2} {
			for _, account := range []string{"A", "B"} {
				kinds = append(kinds, kind{price, show, account})
			}
		}
	}
	n := len(kinds)
	for i := range n * n * n {
		for side := api.Buy; side <= api.Sell; side++ {
			for come := range 4 * 3 * 3 {
				w := newWalk(t, int64(i))
				for at, k := range []kind{kinds[i%n], kinds[i/n%n], kinds[i/n/n]} {
					o := api.Order{ID: at + 1, Account: k.account, Symbol: "ABC", Side: side, Type: api.Limit, Life: api.Day, Price: k.price, Qty: 3, Show: k.show}
					if k.price == 0 {
						o.Type = api.Market
					}
					w.hold("Rest", w.b.Rest(o), w.r.rest(o))
				}
				o := api.Order{ID: 9, Account: "A", Symbol: "ABC", Side: 3 - side, Type: api.Limit, Life: []int{api.Day, api.IOC, api.FOK, api.PostOnly}[come%4], Price: int64(come / 4 % 3), Qty: []int64{2, 4, 7}[come/12]}
				if o.Price == 0 {
					o.Type = api.Market
				}
				w.hold(fmt.Sprintf("%d: Add(%+v)", i, o), w.b.Add(o), w.r.add(o))
				w.changed()
			}
		}
	}
}

// What follows: with Add, Cancel and Replace alone the sides never meet, but where both are of one account; and no quantity is made or lost.
func TestWhatFollows(t *testing.T) {
	for seed := range int64(60) {
		w := newWalk(t, seed)
		whole := map[int]int64{} // what each order is to be in all
		note := func(l []api.Event) {
			for _, x := range l {
				if x.Kind == api.EvAccepted || x.Kind == api.EvReplaced {
					whole[x.O.ID] = x.O.Qty + x.O.Done
				}
				if x.Kind != api.EvRejected && whole[x.O.ID] != x.O.Qty+x.O.Done {
					t.Fatalf("%+v, want %d in all", x, whole[x.O.ID])
				}
			}
		}
		for range 200 {
			switch w.rnd.Intn(4) {
			case 0:
				l, _ := w.b.Replace(1+w.rnd.Intn(w.ids+1), 10+w.rnd.Int63n(6), 1+w.rnd.Int63n(30))
				note(l)
			case 1:
				l, _ := w.b.Cancel(1 + w.rnd.Intn(w.ids+1))
				note(l)
			default:
				note(w.b.Add(w.order()))
			}
			for _, x := range w.b.Orders(api.Buy) {
				for _, y := range w.b.Orders(api.Sell) {
					if x.Price >= y.Price && x.Account != y.Account {
						t.Fatalf("%+v meets %+v", x, y)
					}
				}
			}
		}
	}
}
