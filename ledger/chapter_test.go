package ledger

import (
	"fmt"
	"math/big"
	"math/rand"
	"slices"
	"sort"
	"testing"

	"outcry/api"
)

// A second reading of the chapter, by other means, against which the package is held: nothing is kept but the trades that were booked, and each answer is found by going through them from the first one on, with numbers of any size.

type readTrade struct {
	deal
	day  int
	gone bool
}

type reading struct {
	trades []readTrade
	day    int
}

// part is what a trade books to an account, as one of the three who get something by it.
type part struct {
	account        string
	qty, cash, fee int64
}

func (d deal) parts() [3]part {
	return [3]part{
		{d.buyer, d.qty, -d.price * d.qty, d.buyFee},
		{d.seller, -d.qty, d.price * d.qty, d.sellFee},
		{"", 0, 0, -(d.buyFee + d.sellFee)},
	}
}

// sums are Qty, Cash and Fee of an account, of those trades and symbols that suit.
func (r *reading) sums(account string, suits func(readTrade) bool) [3]*big.Int {
	s := [3]*big.Int{new(big.Int), new(big.Int), new(big.Int)}
	for _, x := range r.trades {
		if x.gone || !suits(x) {
			continue
		}
		for _, p := range x.parts() {
			if p.account == account {
				for i, n := range [3]int64{p.qty, p.cash, p.fee} {
					s[i].Add(s[i], big.NewInt(n))
				}
			}
		}
	}
	return s
}

func (r *reading) ofSymbol(account, symbol string) [3]*big.Int {
	return r.sums(account, func(x readTrade) bool { return x.symbol == symbol })
}

func (r *reading) money(account string) (money, fees *big.Int) {
	s := r.sums(account, func(readTrade) bool { return true })
	return new(big.Int).Sub(s[1], s[2]), s[2]
}

// tooGreat looks at the three who get something by a trade, as all of it is now.
func (r *reading) tooGreat(d deal) bool {
	end := new(big.Int).Exp(big.NewInt(10), big.NewInt(18), nil)
	for _, p := range d.parts() {
		s := r.ofSymbol(p.account, d.symbol)
		money, fees := r.money(p.account)
		for _, n := range []*big.Int{s[0], s[1], s[2], money, fees} {
			if n.CmpAbs(end) > 0 {
				return true
			}
		}
	}
	return false
}

func (r *reading) trade(d deal) api.Errno {
	if d.price < 1 || d.price > 1000000000 || d.qty < 1 || d.qty > 1000000 {
		return api.ErrArg
	}
	for _, f := range []int64{d.buyFee, d.sellFee} {
		if f < -1e15 || f > 1e15 {
			return api.ErrArg
		}
	}
	if len(r.trades) == 100000 {
		return api.ErrMany
	}
	was := r.trades
	r.trades = append(r.trades, readTrade{deal: d, day: r.day})
	if r.tooGreat(d) {
		r.trades = was
		return api.ErrGreat
	}
	return api.OK
}

func (r *reading) takeBack(n int) api.Errno {
	if n <= 0 || n > len(r.trades) {
		return api.ErrNone
	}
	x := &r.trades[n-1]
	switch {
	case x.gone:
		return api.ErrGone
	case x.day != r.day:
		return api.ErrState
	}
	x.gone = true
	if r.tooGreat(x.deal) {
		x.gone = false
		return api.ErrGreat
	}
	return api.OK
}

func (r *reading) net() []api.Booking {
	type pair struct{ account, symbol string }
	seen := map[pair]bool{}
	var list []api.Booking
	for _, x := range r.trades {
		for _, p := range x.parts() {
			k := pair{p.account, x.symbol}
			if seen[k] {
				continue
			}
			seen[k] = true
			s := r.sums(p.account, func(y readTrade) bool { return y.symbol == x.symbol && y.day == r.day })
			if s[0].Sign() != 0 || s[1].Sign() != 0 || s[2].Sign() != 0 {
				list = append(list, api.Booking{Account: p.account, Symbol: x.symbol, Qty: s[0].Int64(), Cash: s[1].Int64(), Fee: s[2].Int64()})
			}
		}
	}
	sort.Slice(list, func(i, j int) bool {
		if list[i].Account != list[j].Account {
			return list[i].Account < list[j].Account
		}
		return list[i].Symbol < list[j].Symbol
	})
	return list
}

// value adds up with numbers of any size, and cuts the sum to its lowest 64 bits at the end.
func (r *reading) value(account string, prices map[string]int64) int64 {
	sum, _ := r.money(account)
	for symbol, price := range prices {
		qty := r.ofSymbol(account, symbol)[0]
		sum.Add(sum, new(big.Int).Mul(qty, big.NewInt(price)))
	}
	low := new(big.Int).And(sum, new(big.Int).SetUint64(1<<64-1))
	return int64(low.Uint64())
}

// both: the package's ledger and the reading, which are told the same.
type both struct {
	l     *Ledger
	r     *reading
	calls []string
}

func newBoth() *both { return &both{l: New(), r: &reading{}} }

func (b *both) held(t *testing.T, call string, got, want any) {
	t.Helper()
	b.calls = append(b.calls, call)
	if fmt.Sprint(got) != fmt.Sprint(want) {
		t.Fatalf("%v: the package answers %v, the reading %v", b.calls, got, want)
	}
}

func (b *both) trade(t *testing.T, d deal) api.Errno {
	t.Helper()
	e := d.in(b.l)
	b.held(t, fmt.Sprintf("Trade(%+v)", d), e, b.r.trade(d))
	return e
}

func (b *both) takeBack(t *testing.T, n int) api.Errno {
	t.Helper()
	e := b.l.Break(n)
	b.held(t, fmt.Sprintf("Break(%d)", n), e, b.r.takeBack(n))
	return e
}

func (b *both) close(t *testing.T) {
	t.Helper()
	b.held(t, "Close", b.l.Close(), b.r.net())
	b.r.day++
}

// asks holds all that can be asked of some accounts and symbols.
func (b *both) asks(t *testing.T, accounts, symbols []string, prices map[string]int64) {
	t.Helper()
	for _, account := range accounts {
		cash, fees := b.l.Cash(account)
		c, f := b.r.money(account)
		b.held(t, fmt.Sprintf("Cash(%q)", account), [2]int64{cash, fees}, [2]*big.Int{c, f})
		for _, symbol := range symbols {
			qty, cash := b.l.Balance(account, symbol)
			s := b.r.ofSymbol(account, symbol)
			b.held(t, fmt.Sprintf("Balance(%q, %q)", account, symbol), [2]int64{qty, cash}, [2]*big.Int{s[0], s[1]})
		}
		b.held(t, fmt.Sprintf("Value(%q, %v)", account, prices), b.l.Value(account, prices), b.r.value(account, prices))
	}
	net := b.l.Net()
	b.held(t, "Net", net, b.r.net())
	checkZeroSum(t, b.l, net, accounts...)
}

// TestEveryShortWalk goes through all rows of a few calls.
func TestEveryShortWalk(t *testing.T) {
	type step func(b *both)
	var steps []step
	for _, d := range []deal{{"X", "a", "b", 3, 2, 1, 0}, {"X", "b", "a", 3, 2, 0, -1}, {"Y", "a", "a", 5, 1, 2, 1}, {"X", "", "a", 2, 1, 1, 1}, {"Y", "b", "", 4, 1, -1, 2}, {"X", "a", "b", 0, 1, 0, 0}} {
		steps = append(steps, func(b *both) { b.trade(t, d) })
	}
	for n := range 4 {
		steps = append(steps, func(b *both) { b.takeBack(t, n) })
	}
	steps = append(steps, func(b *both) { b.close(t) })
	for n := range len(steps) * len(steps) * len(steps) * len(steps) {
		b := newBoth()
		for i := n; i > 0; i /= len(steps) {
			steps[i%len(steps)](b)
		}
		b.asks(t, []string{"", "a", "b"}, []string{"X", "Y"}, map[string]int64{"X": 7, "Y": -3})
	}
}

// walker makes up calls about a few accounts and symbols.
type walker struct {
	*rand.Rand
	accounts, symbols []string
	others            []string // who trade no more, but have something
	loaded            int      // trades that are never taken back
	price, qty, fee   int64
	wild              bool
	seen              map[api.Errno]int
}

func (w *walker) one(l []string) string { return l[w.Intn(len(l))] }

func (w *walker) number(least, most int64) int64 {
	if w.wild && w.Intn(40) == 0 {
		l := []int64{-1 << 63, -1e15 - 1, -1e15, -1, 0, 1, 1000000, 1000001, 1e9, 1e9 + 1, 1e15, 1e15 + 1, 1e18, 1<<63 - 1}
		return l[w.Intn(len(l))]
	}
	switch w.Intn(5) {
	case 0:
		return least
	case 1:
		return most
	}
	return least + w.Int63n(most-least+1)
}

func (w *walker) deal() deal {
	return deal{w.one(w.symbols), w.one(w.accounts), w.one(w.accounts), w.number(1, w.price), w.number(1, w.qty), w.number(-w.fee, w.fee), w.number(-w.fee, w.fee)}
}

func (w *walker) step(t *testing.T, b *both) {
	t.Helper()
	var e api.Errno
	switch n := w.Intn(20); {
	case n < 12:
		e = b.trade(t, w.deal())
	case n < 18:
		e = b.takeBack(t, w.Intn(len(b.r.trades)-w.loaded+3)-1+w.loaded)
	case n == 18 && w.Intn(3) == 0:
		b.close(t)
	default:
		prices := map[string]int64{}
		for range w.Intn(4) {
			prices[w.one(w.symbols)] = w.Int63() - w.Int63()
		}
		b.asks(t, slices.Concat(w.accounts, w.others), w.symbols, prices)
		return
	}
	w.seen[e]++
}

func TestRandomWalks(t *testing.T) {
	seed := rand.New(rand.NewSource(17))
	seen := map[api.Errno]int{}
	for n := range 400 {
		w := &walker{Rand: rand.New(rand.NewSource(seed.Int63())), seen: seen, accounts: []string{"", "a", "b", "ab", "c"}[:1+seed.Intn(5)], symbols: []string{"X", "", "XY"}[:1+seed.Intn(3)], price: 1 + seed.Int63n(9), qty: 1 + seed.Int63n(9), fee: seed.Int63n(5), wild: n%2 == 0}
		if n%10 == 0 {
			w.price, w.qty, w.fee = api.MaxPrice, api.MaxQty, greatFee
		}
		b := newBoth()
		for range 80 {
			w.step(t, b)
		}
		b.asks(t, w.accounts, w.symbols, map[string]int64{"X": 5})
	}
	for _, e := range []api.Errno{api.OK, api.ErrArg, api.ErrNone, api.ErrGone, api.ErrState} {
		if seen[e] < 300 {
			t.Errorf("the answer %d came %d times alone", e, seen[e])
		}
	}
}

// TestRandomWalksAtTheBounds begins where an account has as much as may be, so that many trades, and much that is taken back, go beyond.
func TestRandomWalksAtTheBounds(t *testing.T) {
	seed := rand.New(rand.NewSource(18))
	seen := map[api.Errno]int{}
	for n, first := range bounds() {
		b := newBoth()
		first.load(t, b.l, most, first.direction)
		for _, x := range b.l.trades {
			b.r.trades = append(b.r.trades, readTrade{deal: deal(x)})
		}
		w := &walker{Rand: rand.New(rand.NewSource(seed.Int63())), seen: seen, accounts: []string{"", "a", "q"}, symbols: []string{"X", "Y", "Z"}, others: []string{"r"}, loaded: len(b.r.trades), price: api.MaxPrice, qty: api.MaxQty, fee: greatFee}
		if n%2 == 0 {
			w.price, w.qty, w.fee = 3, 1, 2
		}
		for i := range 10 {
			w.others = append(w.others, fmt.Sprint("p", i))
		}
		for range 60 {
			w.step(t, b)
			for range w.Intn(3) {
				seen[b.trade(t, first.move())]++
			}
		}
	}
	if seen[api.OK] < 500 || seen[api.ErrGreat] < 300 {
		t.Errorf("what came of the steps: %v", seen)
	}
}
