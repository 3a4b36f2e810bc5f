package risk

import (
	"fmt"
	"math/big"
	"math/rand"
	"regexp"
	"slices"
	"testing"

	"outcry/api"
)

// A second reading of the chapter, by other means, against which the package is held: nothing is kept but a list of what was said, and each answer is found by going through it from its beginning; amounts are numbers of any size, which are cut when they are asked.

type saying struct {
	what    string // "limits", "counted", "open", "done", "moved" or "stopped"
	account string
	limits  api.Account
	order   api.Order
	value   int64
	symbol  string
	number  int64
	on      bool
}

type reading struct{ said []saying }

func (r *reading) says(s saying) api.Errno {
	r.said = append(r.said, s)
	return api.OK
}

func (r *reading) limits(account string) (limits api.Account, there bool) {
	for _, s := range r.said {
		if s.what == "limits" && s.account == account {
			limits, there = s.limits, true
		}
	}
	return limits, there
}

func (r *reading) accounts() int {
	names := map[string]int{}
	for _, s := range r.said {
		if s.what == "limits" {
			names[s.account]++
		}
	}
	return len(names)
}

func (r *reading) stopped(account string) bool {
	for _, s := range slices.Backward(r.said) {
		if s.what == "stopped" && s.account == account {
			return s.on
		}
	}
	return false
}

// due goes through the commands that counted: number is when, and limits are those that held then.
func (r *reading) due(account string) int64 {
	due := int64(0)
	for _, s := range r.said {
		if s.what == "counted" && s.account == account {
			if due < s.number {
				due = s.number
			}
			due += int64(s.limits.Per)
		}
	}
	return due
}

// open gives what was said last of each number, if that is not that it is done.
func (r *reading) open() []saying {
	last := map[int]int{}
	for i, s := range r.said {
		if s.what == "open" || s.what == "done" {
			last[s.order.ID] = i
		}
	}
	var list []saying
	for i, s := range r.said {
		if s.what == "open" && last[s.order.ID] == i {
			list = append(list, s)
		}
	}
	return list
}

func cut(n *big.Int) int64 {
	end := big.NewInt(0).Exp(big.NewInt(10), big.NewInt(18), nil)
	if n.Cmp(end) > 0 {
		return end.Int64()
	}
	if n.Cmp(end.Neg(end)) < 0 {
		return end.Int64()
	}
	return n.Int64()
}

func (r *reading) openValue(account string, but int, more int64) int64 {
	total := big.NewInt(more)
	for _, s := range r.open() {
		if s.account == account && s.order.ID != but {
			total.Add(total, big.NewInt(s.value))
		}
	}
	return cut(total)
}

func (r *reading) position(account, symbol string) int64 {
	total := new(big.Int)
	for _, s := range r.said {
		if s.what == "moved" && s.account == account && s.symbol == symbol {
			total.Add(total, big.NewInt(s.number))
		}
	}
	return cut(total)
}

func (r *reading) greatest(o api.Order) int64 {
	total := big.NewInt(r.position(o.Account, o.Symbol))
	if o.Side == 2 {
		total.Neg(total)
	}
	for _, s := range r.open() {
		if s.account == o.Account && s.order.Symbol == o.Symbol && s.order.Side == o.Side && s.order.ID != o.ID {
			total.Add(total, big.NewInt(s.order.Qty))
		}
	}
	return cut(total.Add(total, big.NewInt(o.Qty)))
}

var aName = regexp.MustCompile(`^[A-Z0-9]{1,12}$`)

func readMayBe(a api.Account) bool {
	low := min(a.Order, a.Open, a.Position, int64(a.Burst), int64(a.Per))
	return aName.MatchString(a.Name) && low >= 0 && max(a.Order, a.Open, a.Position) < 1e18+1 && a.Burst < 1001 && a.Per < 86400001
}

func (r *reading) new(l []api.Account) api.Errno {
	if len(l) > 16 {
		return api.ErrMany
	}
	for i, a := range l {
		if !readMayBe(a) {
			return api.ErrArg
		}
		for _, b := range l[:i] {
			if a.Name == b.Name {
				return api.ErrKnown
			}
		}
	}
	for _, a := range l {
		r.set(a)
	}
	return api.OK
}

func (r *reading) set(a api.Account) api.Errno {
	_, there := r.limits(a.Name)
	switch {
	case !readMayBe(a):
		return api.ErrArg
	case !there && r.accounts() == 16:
		return api.ErrMany
	}
	return r.says(saying{what: "limits", account: a.Name, limits: a})
}

func readWrong(o api.Order, mark int64) bool {
	return o.Qty < 1 || o.Qty > 1000000 || o.Price < 0 || o.Price > 1000000000 || mark < 0 || mark > 1000000000 || o.Side < 1 || o.Side > 2
}

func readValue(o api.Order, mark int64) int64 {
	if o.Price != 0 {
		return o.Price * o.Qty
	}
	return mark * o.Qty
}

func (r *reading) check(o api.Order, mark, now int64) api.Errno {
	if readWrong(o, mark) || now < 0 || now > 253402300799999 {
		return api.ErrArg
	}
	l, there := r.limits(o.Account)
	if !there {
		return api.ErrAccount
	}
	if r.stopped(o.Account) {
		return api.ErrKill
	}
	if l.Burst > 0 && l.Per > 0 {
		if r.due(o.Account)-now > int64(l.Burst-1)*int64(l.Per) {
			return api.ErrRate
		}
		r.says(saying{what: "counted", account: o.Account, number: now, limits: l})
	}
	value := readValue(o, mark)
	ofOrder := l.Order > 0 && value > l.Order
	ofOpen := l.Open > 0 && r.openValue(o.Account, o.ID, value) > l.Open
	ofPosition := l.Position > 0 && r.greatest(o) > l.Position
	if ofOrder || ofOpen || ofPosition {
		return api.ErrLimit
	}
	return api.OK
}

func (r *reading) opens(o api.Order, mark int64) api.Errno {
	if readWrong(o, mark) || o.ID < 1 {
		return api.ErrArg
	}
	if _, there := r.limits(o.Account); !there {
		return api.ErrAccount
	}
	for _, s := range r.open() {
		if s.order.ID == o.ID && s.account != o.Account {
			return api.ErrKnown
		}
	}
	return r.says(saying{what: "open", account: o.Account, order: o, value: readValue(o, mark)})
}

func (r *reading) done(id int) api.Errno {
	for _, s := range r.open() {
		if s.order.ID == id {
			return r.says(saying{what: "done", order: s.order})
		}
	}
	return api.ErrNone
}

func (r *reading) trade(account, symbol string, qty int64) api.Errno {
	if _, there := r.limits(account); !there {
		return api.ErrAccount
	}
	if qty == 0 || qty > 1000000 || qty < -1000000 {
		return api.ErrArg
	}
	return r.says(saying{what: "moved", account: account, symbol: symbol, number: qty})
}

func (r *reading) kill(account string, on bool) api.Errno {
	if _, there := r.limits(account); !there {
		return api.ErrAccount
	}
	return r.says(saying{what: "stopped", account: account, on: on})
}

func (r *reading) look(account, symbol string) (int64, int64, api.Errno) {
	if _, there := r.limits(account); !there {
		return 0, 0, api.ErrAccount
	}
	return r.openValue(account, 0, 0), r.position(account, symbol), api.OK
}

// pair: the package's guard and the reading's, which are told the same.
type pair struct {
	g     *Guard
	r     *reading
	calls [][]any // what was called, for whoever has to look into a fault
}

func newPair(t *testing.T, l ...api.Account) *pair {
	t.Helper()
	p := &pair{r: &reading{}}
	g, e := New(l)
	p.g = g
	p.held(t, e, p.r.new(l), "New", l)
	return p
}

func (p *pair) held(t *testing.T, got, want api.Errno, call ...any) api.Errno {
	t.Helper()
	p.calls = append(p.calls, call)
	if got != want {
		t.Fatalf("%+v: the package answers %d, the reading %d", p.calls, got, want)
	}
	return got
}

func (p *pair) set(t *testing.T, a api.Account) {
	t.Helper()
	p.held(t, p.g.Set(a), p.r.set(a), "Set", a)
}

func (p *pair) check(t *testing.T, o api.Order, mark, now int64) api.Errno {
	t.Helper()
	return p.held(t, p.g.Check(o, mark, now), p.r.check(o, mark, now), "Check", o, mark, now)
}

func (p *pair) open(t *testing.T, o api.Order, mark int64) {
	t.Helper()
	p.held(t, p.g.Open(o, mark), p.r.opens(o, mark), "Open", o, mark)
}

func (p *pair) done(t *testing.T, id int) {
	t.Helper()
	p.held(t, p.g.Done(id), p.r.done(id), "Done", id)
}

func (p *pair) trade(t *testing.T, account, symbol string, qty int64) {
	t.Helper()
	p.held(t, p.g.Trade(account, symbol, qty), p.r.trade(account, symbol, qty), "Trade", account, symbol, qty)
}

func (p *pair) kill(t *testing.T, account string, on bool) {
	t.Helper()
	p.held(t, p.g.Kill(account, on), p.r.kill(account, on), "Kill", account, on)
}

func (p *pair) look(t *testing.T, account, symbol string) {
	t.Helper()
	a, b, e := p.g.Look(account, symbol)
	c, d, f := p.r.look(account, symbol)
	p.held(t, e, f, "Look", account, symbol)
	if a != c || b != d {
		t.Fatalf("%+v: the package tells %d, %d, the reading %d, %d", p.calls, a, b, c, d)
	}
}

// TestEveryShortWalk goes through all rows of a few calls on a few orders.
func TestEveryShortWalk(t *testing.T) {
	type step func(p *pair)
	var steps []step
	for _, o := range []api.Order{buy(1, 5, 2), buy(2, 5, 2), sell(1, 0, 3), in("Y", buy(1, 2, 4)), of("B", buy(1, 5, 2))} {
		steps = append(steps, func(p *pair) { p.check(t, o, 3, 0) }, func(p *pair) { p.open(t, o, 3) })
	}
	steps = append(steps,
		func(p *pair) { p.done(t, 1) },
		func(p *pair) { p.trade(t, "A", "X", 2) },
		func(p *pair) { p.trade(t, "A", "X", -2) },
		func(p *pair) { p.kill(t, "A", true) },
		func(p *pair) { p.kill(t, "A", false) },
		func(p *pair) { p.set(t, api.Account{Name: "A", Open: 20, Burst: 1, Per: 10}) },
		func(p *pair) { p.set(t, api.Account{Name: "A", Position: 5}) },
		func(p *pair) { p.check(t, buy(1, 5, 2), 0, 9) },
	)
	for _, a := range steps {
		for _, b := range steps {
			for _, c := range steps {
				for _, d := range steps {
					p := newPair(t, api.Account{Name: "A", Order: 10, Open: 15, Position: 4, Burst: 2, Per: 5}, api.Account{Name: "B"})
					for _, do := range []step{a, b, c, d} {
						do(p)
					}
					p.look(t, "A", "X")
					p.check(t, sell(3, 1, 3), 0, 10)
				}
			}
		}
	}
}

// walker makes up calls about a few accounts, symbols and numbers.
type walker struct {
	*rand.Rand
	orders      int
	price, most int64 // of a price, of a Qty
	now         int64
	wild        bool
}

func (w *walker) number(most int64) int64 {
	if w.wild && w.Intn(30) == 0 {
		l := []int64{-most - 1, -1, 0, 1, api.MaxQty, api.MaxQty + 1, api.MaxPrice, api.MaxPrice + 1, api.MaxTime, api.MaxTime + 1, 1e18, 1e18 + 1, -1e18}
		return l[w.Intn(len(l))]
	}
	return 1 + w.Int63n(most)
}

func (w *walker) name() string {
	if w.wild && w.Intn(40) == 0 {
		return []string{"", "a", "AAAAAAAAAAAAA", "A B"}[w.Intn(4)]
	}
	return string(rune('A' + w.Intn(3)))
}

func (w *walker) symbol() string { return string(rune('X' + w.Intn(2))) }

// limit is none, now and then, else one that some orders go above, and others do not.
func (w *walker) limit(most int64) int64 {
	if w.Intn(3) == 0 {
		return 0
	}
	return w.number(most)
}

func (w *walker) account(name string) api.Account {
	value := w.price * w.most
	return api.Account{Name: name, Order: w.limit(value), Open: w.limit(4 * value), Position: w.limit(5 * w.most), Burst: int(w.limit(4)), Per: int(w.limit(8))}
}

func (w *walker) order() api.Order {
	o := api.Order{ID: w.Intn(w.orders+2) - 1, Account: w.name(), Symbol: w.symbol(), Side: 1 + w.Intn(2), Price: w.number(w.price+1) - 1, Qty: w.number(w.most)}
	if w.wild && w.Intn(40) == 0 {
		o.Side = w.Intn(6) - 1
	}
	return o
}

func (w *walker) step(t *testing.T, p *pair) {
	t.Helper()
	mark := w.number(w.price+1) - 1
	switch w.Intn(20) {
	case 0:
		p.set(t, w.account(w.name()))
	case 1, 2, 3, 4, 5, 6, 7:
		w.now += int64(w.Intn(4))
		o, now := w.order(), w.now
		if w.wild && w.Intn(30) == 0 {
			now = w.number(200) - 1
		}
		if p.check(t, o, mark, now) == api.OK {
			p.open(t, o, mark)
		}
	case 8, 9, 10:
		p.open(t, w.order(), mark)
	case 11, 12, 13:
		p.done(t, w.Intn(w.orders+2)-1)
	case 14, 15, 16:
		p.trade(t, w.name(), w.symbol(), w.number(w.most)*int64(1-2*w.Intn(2)))
	case 17:
		p.kill(t, w.name(), w.Intn(3) == 0)
	default:
		p.look(t, w.name(), w.symbol())
	}
}

func TestRandomWalks(t *testing.T) {
	seed := rand.New(rand.NewSource(15))
	for n := range 1500 {
		w := &walker{Rand: rand.New(rand.NewSource(seed.Int63())), orders: 1 + seed.Intn(12), price: 1 + seed.Int63n(9), most: 1 + seed.Int63n(9), wild: n%2 == 0}
		if n%10 == 0 {
			w.price, w.most = api.MaxPrice, api.MaxQty
		}
		p := newPair(t)
		for _, name := range []string{"A", "B"} {
			p.set(t, w.account(name))
		}
		for range 150 {
			w.step(t, p)
		}
		for _, name := range []string{"A", "B", "C"} {
			p.look(t, name, "X")
			p.look(t, name, "Y")
		}
	}
}

// TestRandomNew makes guards of lists with names that stand there twice, limits that may not be, and many of them.
func TestRandomNew(t *testing.T) {
	w := &walker{Rand: rand.New(rand.NewSource(16)), price: 5, most: 5, wild: true}
	for range 5000 {
		var l []api.Account
		for i := range w.Intn(20) {
			name := fmt.Sprint(w.name(), i)
			if w.Intn(12) == 0 {
				name = w.name()
			}
			a := w.account(name)
			if w.Intn(2) == 0 {
				a = api.Account{Name: name}
			}
			l = append(l, a)
		}
		p := newPair(t, l...)
		if p.g == nil {
			continue
		}
		for i := range 3 {
			p.set(t, w.account(fmt.Sprint("NEW", i)))
			p.look(t, fmt.Sprint("NEW", i), "X")
		}
		for _, a := range l {
			p.check(t, of(a.Name, buy(1, 3, 3)), 0, 0)
		}
	}
}

// TestHowManyAreLetIn: in any time of L milliseconds at most Burst and L by Per and one commands.
func TestHowManyAreLetIn(t *testing.T) {
	r := rand.New(rand.NewSource(17))
	for range 400 {
		burst, per := 1+r.Intn(5), 1+r.Intn(12)
		g := guarded(t, api.Account{Name: "A", Burst: burst, Per: per})
		var let []int64
		now := int64(0)
		for range 300 {
			now += int64(r.Intn(1 + r.Intn(2*per)))
			if g.Check(buy(1, 1, 1), 0, now) == api.OK {
				let = append(let, now)
			}
		}
		for i := range let {
			for k := i; k < len(let); k++ {
				if n, l := int64(k-i+1), let[k]-let[i]; n > int64(burst)+l/int64(per)+1 {
					t.Fatalf("%d by %d: %d commands in %d milliseconds: %v", burst, per, n, l, let)
				}
			}
		}
		if want := int(now) / per; len(let) < min(want, 20) {
			t.Fatalf("%d by %d: only %d were let in up to %d", burst, per, len(let), now)
		}
	}
}

// TestLimitsHold: if every order is checked just ahead of being opened, and trades only take away what was open, what is open stays within Open, and the position within Position.
func TestLimitsHold(t *testing.T) {
	r := rand.New(rand.NewSource(18))
	for range 300 {
		limits := api.Account{Name: "A", Open: 1 + r.Int63n(300), Position: 1 + r.Int63n(60)}
		g := guarded(t, limits, api.Account{Name: "B"})
		live := map[int]api.Order{}
		for range 200 {
			id := 1 + r.Intn(8)
			o, there := live[id]
			if there && r.Intn(2) == 0 {
				part := 1 + r.Int63n(o.Qty)
				if e := g.Trade("A", "X", part*int64(3-2*o.Side)); e != api.OK {
					t.Fatal(e)
				}
				o.Qty -= part
				if o.Qty > 0 {
					g.Open(o, 0)
					live[id] = o
				} else {
					g.Done(id)
					delete(live, id)
				}
			} else if o = buy(id, 1+r.Int63n(9), 1+r.Int63n(20)); r.Intn(2) == 0 {
				o.Side = api.Sell
			}
			if o.Qty > 0 && live[id] != o && g.Check(o, 0, 0) == api.OK {
				g.Open(o, 0)
				live[id] = o
			}
			g.Open(of("B", buy(100+r.Intn(5), 1000, 1000)), 0) // changes nothing for A
			open, position, e := g.Look("A", "X")
			if open > limits.Open || position > limits.Position || -position > limits.Position || e != api.OK {
				t.Fatalf("%+v: %d open, position %d, %d", limits, open, position, e)
			}
		}
	}
}
