package exchange

import (
	"bytes"
	"fmt"
	"math/rand"
	"slices"
	"testing"

	"outcry/api"
	"outcry/client"
	"outcry/framer"
	"outcry/gateway"
	"outcry/viewer"
)

// Firms in front of an exchange, over connections that break anywhere, for days: what follows from the promises (Z8 to Z10, and P7, P10, P12, P13, P14 of DOC.md).

// trader is a firm's end, with what it has asked for and was told.
type trader struct {
	*client.Client
	place    int
	kind     int
	accounts []string
	conn     int    // 0: there is none
	up, down []byte // on their way
	spoken   *framer.Framer
	lost     map[int]bool // numbers of which its session has said that it can't send them any more
	asked    []request
	told     []api.Msg
}

// request is what was asked for under a number.
type request struct {
	number int
	word   string
}

// market is an exchange with its traders, and one who hears all of its packets.
type market struct {
	*rand.Rand
	t       *testing.T
	s       Setup
	x       *Exchange
	now     int64
	leaps   bool // time goes by in days
	names   int
	traders []*trader
	v       *viewer.Viewer
	packets [][]byte
	days    []api.Booking // all lines of all days that were closed
}

func bigSetup(keep int) Setup {
	s := twoListed()
	s.Instruments[1].Turns = turns(540, api.Trading, 1010, api.Closed)
	s.Accounts = []api.Account{{Name: "A1"}, {Name: "A2"}, {Name: "B1"}, {Name: "C1", Order: 30000}}
	s.Firms = []gateway.Firm{{Name: "F1", Accounts: []string{"A1", "A2"}, Keep: keep}, {Name: "F2", Accounts: []string{"B1"}, Keep: keep}, {Name: "F3", Accounts: []string{"C1"}, Keep: keep}}
	return s
}

func symbols() []string { return []string{"ABC", "XY"} }

func accounts() []string { return []string{"", "A1", "A2", "B1", "C1"} }

func newMarket(t *testing.T, seed int64, keep int, kinds ...int) *market {
	t.Helper()
	m := &market{Rand: rand.New(rand.NewSource(seed)), t: t, s: bigSetup(keep)}
	m.x, m.v = open(t, m.s, nil), newViewer(t, symbols()...)
	for n, f := range m.s.Firms {
		c, e := client.New(api.Link{Own: f.Name, Peer: "X", Beat: 30, Calls: true, Keep: keep}, kinds[n])
		expect(t, "client.New", e, api.OK)
		m.traders = append(m.traders, &trader{Client: c, place: n + 1, kind: kinds[n], accounts: f.Accounts, lost: map[int]bool{}})
	}
	return m
}

// pass lets time go by at all ends.
func (m *market) pass(span int64) {
	m.t.Helper()
	m.now += span
	expect(m.t, "the exchange's Tick", m.x.Tick(m.now), api.OK)
	for _, p := range m.traders {
		expect(m.t, "Tick", p.Tick(m.now), api.OK)
	}
	m.look()
}

func (m *market) dial(p *trader) {
	if p.conn != 0 {
		return
	}
	conn, e := m.x.Connect(p.kind, m.now)
	if e != api.OK {
		return
	}
	p.conn, p.up, p.down = conn, nil, nil
	p.spoken, _ = framer.New(p.kind)
	expect(m.t, "Connect", p.Connect(m.now), api.OK)
}

// cut ends a connection; of what is on its way some may still come.
func (m *market) cut(p *trader) {
	if p.conn == 0 {
		return
	}
	m.deliver(p, m.Intn(len(p.up)+1), m.Intn(len(p.down)+1))
	m.x.Hangup(p.conn, m.now) // it may be gone already
	p.conn = 0
	expect(m.t, "Drop", p.Drop(m.now), api.OK)
}

// collect puts what both ends have to say on its way.
func (m *market) collect(p *trader) {
	if p.conn == 0 {
		return
	}
	up, ends := p.Out()
	p.up = append(p.up, up...)
	p.listen(up)
	down, last, e := m.x.Out(p.conn)
	p.down = append(p.down, down...)
	if ends || last || e != api.OK {
		m.cut(p)
	}
}

// listen notes which numbers a trader's session says that it can't send any more.
func (p *trader) listen(up []byte) {
	for _, f := range p.spoken.Feed(up) {
		m := decoded(p.kind, f.Bytes)
		if m.Kind == api.SequenceReset && m.Text == "lost" {
			for n := m.Seq; n < m.Next; n++ {
				p.lost[n] = true
			}
		}
	}
}

// deliver lets so many bytes come to each end.
func (m *market) deliver(p *trader, up, down int) {
	if p.conn == 0 {
		return
	}
	up, down = min(up, len(p.up)), min(down, len(p.down))
	m.x.Bytes(p.conn, p.up[:up], m.now)
	m.look()
	expect(m.t, "Bytes", p.Bytes(p.down[:down], m.now), api.OK)
	p.up, p.down = p.up[up:], p.down[down:]
	p.told = append(p.told, p.Reports()...)
}

// look: behind each call all that has to be 0 is, and who has heard all packets has the books as they are (Z9, Z10).
func (m *market) look() {
	m.t.Helper()
	l := m.x.Packets()
	hears(m.t, m.v, l)
	m.packets = append(m.packets, l...)
	(&world{t: m.t, x: m.x}).shown(m.v, symbols()...)
	var money int64
	for n, symbol := range symbols() {
		var sum int64
		for _, account := range accounts() {
			qty, cash := m.x.Balance(account, symbol)
			sum += qty
			if n == 0 {
				money += cash
			}
		}
		if sum != 0 {
			m.t.Errorf("the accounts have %d of %s in all", sum, symbol)
		}
	}
	if money != 0 {
		m.t.Errorf("the accounts and the house have %d in all", money)
	}
}

// message gives what a firm may ask for.
func (m *market) message(p *trader) api.Msg {
	m.names++
	id, symbol := fmt.Sprint("n", m.names), symbols()[m.Intn(3)/2]
	other, side, qty, price := fmt.Sprint("n", max(1, m.names-m.Intn(12))), 1+m.Intn(2), 1+m.Int63n(20), 995+m.Int63n(11)
	switch m.Intn(12) {
	case 0:
		return api.Msg{Kind: api.CancelOrder, ID: id, OrigID: other, Symbol: symbol, Side: side}
	case 1, 2:
		return api.Msg{Kind: api.ReplaceOrder, ID: id, OrigID: other, Symbol: symbol, Side: side, Price: price, Qty: qty}
	case 3:
		return api.Msg{Kind: api.MassCancel, ID: id, Account: p.accounts[0], Side: side}
	}
	o := limit(id, p.accounts[m.Intn(len(p.accounts))], side, qty, price)
	o.Symbol = symbol
	o.Life = []int{api.Day, api.Day, api.IOC, api.GTC, api.GTC, api.AtOpen}[m.Intn(6)]
	switch m.Intn(9) {
	case 0:
		o.Type, o.Life, o.Price = api.Market, api.IOC, 0
	case 1:
		o.Type, o.Life, o.Stop = api.StopLimit, api.Day, price
	case 2:
		o.Show = 1
	}
	return o
}

// send lets a firm ask for something, connected or not.
func (m *market) send(p *trader, x api.Msg) {
	m.t.Helper()
	number, e := p.View().Out, api.OK
	if x.Kind == api.NewOrder {
		e = p.Order(x, m.now)
	} else {
		e = p.Send(x, m.now)
	}
	expect(m.t, "what a firm asks for", e, api.OK)
	p.asked = append(p.asked, request{number, fmt.Sprint(x.Kind-api.NewOrder+api.DoNew, x.ID, x.OrigID, x.Account, x.Side, x.Price, x.Qty)})
}

func (m *market) act() {
	p := m.traders[m.Intn(len(m.traders))]
	switch n := m.Intn(100); {
	case n < 25:
		m.send(p, m.message(p))
	case n < 50:
		m.collect(p)
	case n < 80:
		m.deliver(p, m.Intn(400), m.Intn(800))
	case n < 90:
		m.pass(m.Int63n(5 * second))
	case n < 93:
		m.cut(p)
	case n < 95 && m.leaps:
		m.leap()
	default:
		m.dial(p)
	}
}

// leap lets much time go by, up to where something begins; now and then a day is closed.
func (m *market) leap() {
	if m.Intn(4) == 0 {
		m.days = append(m.days, m.x.Close()...)
	}
	today := m.now - m.now%day
	for _, at := range []int{480, 539, 541, 999, 1005, 1011} {
		if next := today + int64(at)*minute; next > m.now {
			m.pass(next - m.now)
			return
		}
	}
	m.pass(today + day + 8*hour - m.now)
}

// settle lets connections stay, until all have heard all.
func (m *market) settle() {
	for range 120 {
		m.meet()
		m.pass(2 * second)
	}
	for range 5 { // what time has asked for, and the answers to it
		m.meet()
	}
}

func (m *market) meet() {
	for _, p := range m.traders {
		m.dial(p)
		m.collect(p)
		m.deliver(p, len(p.up), len(p.down))
	}
}

// applied: the commands of a firm on the tape are what it has asked for, in order, each once, but for such of which its session has said that it can't send them any more (P7); how many are not done.
func (m *market) applied(p *trader) int {
	m.t.Helper()
	var got []string
	for _, c := range commands(m.t, m.x.Tape()) {
		if c.Owner == p.place {
			got = append(got, fmt.Sprint(c.Kind, c.O.Name, c.Name, c.O.Account, c.O.Side, c.O.Price, c.O.Qty))
		}
	}
	lost := 0
	for n, r := range p.asked {
		done := n - lost
		if done < len(got) && got[done] == r.word {
			continue
		}
		lost++
		if !p.lost[r.number] {
			m.t.Errorf("%d: %q is not done, or not in its turn, in\n%v", p.place, r.word, got)
		}
	}
	if len(got)+lost != len(p.asked) {
		m.t.Errorf("%d: more is done than was asked for:\n%v, of\n%v", p.place, got, p.asked)
	}
	return lost
}

// events gives all that has come of the commands of the tape.
func (m *market) events() []api.Event {
	e, _ := newEngine(m.s)
	return slices.Concat(e.Run(commands(m.t, m.x.Tape()), 3)...)
}

// reported: all events of a firm's orders have come to it as reports, in order, each once, or are told as skipped (P13); how many these are. (Of phases a firm is told only while it is there.)
func (m *market) reported(p *trader) int {
	m.t.Helper()
	var want []string
	for _, x := range m.events() {
		if x.Owner == p.place {
			want = append(want, fmt.Sprint(x.Name, " ", x.F.Price, " ", x.F.Qty))
		}
	}
	skipped := 0
	for _, r := range p.Skipped() {
		skipped += 1 + r[1] - r[0]
	}
	at, count, last := 0, 0, 0
	for _, x := range p.told {
		if x.Seq <= last {
			m.t.Errorf("%d is told %d behind %d", p.place, x.Seq, last)
		}
		last = x.Seq
		if x.Kind == api.Status {
			continue
		}
		count++
		name := x.ID
		if x.Kind == api.CancelReject {
			name = x.OrigID
		}
		word := fmt.Sprint(name, " ", x.LastPrice, " ", x.LastQty)
		n := slices.Index(want[at:], word)
		if n < 0 || n > skipped {
			m.t.Errorf("%d is told %+v, where %q was to be", p.place, x, want[at:])
			return skipped
		}
		at += n + 1
	}
	if count+skipped < len(want) || skipped == 0 && count != len(want) {
		m.t.Errorf("%d is told %d reports, and of %d that they were skipped, of %d", p.place, count, skipped, len(want))
	}
	return skipped
}

// holds: what each account has is what its reports say (P10).
func (m *market) holds() {
	m.t.Helper()
	said, booked := map[string][2]int64{}, map[string][2]int64{}
	add := func(to map[string][2]int64, account, symbol string, qty, cash int64) {
		was := to[account+" "+symbol]
		to[account+" "+symbol] = [2]int64{was[0] + qty, was[1] + cash}
	}
	for _, p := range m.traders {
		for _, x := range p.told {
			if x.Kind != api.Execution || x.Exec != 3 {
				continue
			}
			qty := x.LastQty
			if x.Side == api.Sell {
				qty = -qty
			}
			add(said, x.Account, x.Symbol, qty, -qty*x.LastPrice)
		}
	}
	m.days = append(m.days, m.x.Close()...)
	for _, b := range m.days {
		add(booked, b.Account, b.Symbol, b.Qty, b.Cash)
	}
	for _, account := range accounts() {
		for _, symbol := range symbols() {
			k := account + " " + symbol
			if qty, _ := m.x.Balance(account, symbol); said[k] != booked[k] || qty != said[k][0] {
				m.t.Errorf("%s has %d, and %d by its days, by its reports %d", k, qty, booked[k], said[k])
			}
		}
	}
}

// TestConnectionsBreak: with stores that keep all nothing is lost; with small ones something is, and told.
func TestConnectionsBreak(t *testing.T) {
	t.Parallel()
	for _, keep := range []int{200, 15, 3} {
		t.Run(fmt.Sprint(keep), func(t *testing.T) {
			t.Parallel()
			lost, skipped, traded := 0, 0, 0
			for seed := range 40 {
				m := newMarket(t, int64(seed), keep, 1+seed%2, 1+seed/2%2, 1+seed/4%2)
				m.pass(nine)
				for range 400 {
					m.act()
				}
				m.settle()
				for _, p := range m.traders {
					lost += m.applied(p)
					skipped += m.reported(p)
					if v := p.View(); v.State != api.Up || v.Wants != 0 || v.Waits != 0 {
						t.Errorf("%d is %+v in the end", p.place, v)
					}
				}
				if keep == 200 {
					m.holds()
				}
				for _, x := range m.events() {
					if x.Kind == api.EvTrade {
						traded++
					}
				}
				if t.Failed() {
					t.Fatalf("seed %d", seed)
				}
			}
			if traded < 300 || (lost > 0) != (keep < 200) || (skipped > 0) != (keep < 200) {
				t.Errorf("%d trades, %d lost, %d skipped", traded, lost, skipped)
			}
		})
	}
}

// TestDays: for days, with auctions at the opening and at the close.
func TestDays(t *testing.T) {
	t.Parallel()
	auctions, expired, taker := 0, 0, map[int]int{}
	for seed := range 40 {
		m := newMarket(t, int64(seed), 200, 1+seed%2, 1+seed/2%2, 1+seed/4%2)
		m.leaps = true
		m.pass(nine - hour + m.Int63n(hour))
		for range 700 {
			m.act()
		}
		m.settle()
		for _, p := range m.traders {
			if lost := m.applied(p); lost > 0 {
				t.Errorf("%d are lost", lost)
			}
			m.reported(p)
		}
		m.holds()
		for _, x := range m.events() {
			switch x.Kind {
			case api.EvAuction:
				auctions++
			case api.EvExpired:
				expired++
			case api.EvTrade:
				taker[x.F.Taker]++
			}
		}
		if t.Failed() {
			t.Fatalf("seed %d", seed)
		}
	}
	if auctions < 20 || expired < 100 || taker[0] < 40 || taker[1] < 100 || taker[2] < 100 {
		t.Errorf("only %d auctions, %d expired, trades by their takers %v", auctions, expired, taker)
	}
}

// all is all that can be asked of an exchange, but for its packets, and how far back they are kept.
func all(x *Exchange) string {
	s := ""
	for _, symbol := range symbols() {
		for side := range 3 {
			l, e := x.Depth(symbol, side)
			s += fmt.Sprintln(symbol, side, l, e)
		}
		for _, account := range accounts() {
			qty, cash := x.Balance(account, symbol)
			s += fmt.Sprintln(account, symbol, qty, cash)
		}
	}
	return s
}

// seen is all that who has taken in a snapshot has.
func (m *market) seen() string {
	v := newViewer(m.t, symbols()...)
	hears(m.t, v, m.x.Snapshot(m.now))
	return state(v)
}

// state is all that a viewer has.
func state(v *viewer.Viewer) string {
	s := ""
	for _, symbol := range symbols() {
		price, qty, all := v.Last(symbol)
		s += fmt.Sprintln(symbol, v.Phase(symbol), price, qty, all, v.Depth(symbol, 1), v.Depth(symbol, 2))
	}
	return s
}

// reopened gives a market of an exchange that was opened on the tape of this one's, with other clients.
func (m *market) reopened() *market {
	n := newMarket(m.t, 0, 200, m.traders[0].kind, m.traders[1].kind, m.traders[2].kind)
	n.x, n.now = open(m.t, m.s, m.x.Tape()), m.now
	if l := n.x.Packets(); len(l) > 0 {
		m.t.Errorf("what was played is told: %x", l)
	}
	hears(m.t, n.v, n.x.Snapshot(m.now))
	return n
}

// bare is a report without what its session, and the count of reports, put there.
func bare(m api.Msg) api.Msg {
	m.Seq, m.ExecID, m.Time, m.OrigTime, m.Dup = 0, 0, 0, 0, false
	return m
}

// TestZ8Reopened: an exchange that was opened on the tape of another one is as that, and goes on as that (P12, too).
func TestZ8Reopened(t *testing.T) {
	t.Parallel()
	reports, trades := 0, 0
	for seed := range 40 {
		m := newMarket(t, int64(seed), 200, 1+seed%2, 1+seed/2%2, 1+seed/4%2)
		m.leaps = seed%2 == 0
		m.pass(nine - minute)
		for range 300 {
			m.act()
		}
		m.settle()
		n := m.reopened()
		same := func(what string) {
			t.Helper()
			if all(n.x) != all(m.x) || n.seen() != m.seen() || !bytes.Equal(n.x.Tape(), m.x.Tape()) {
				t.Fatalf("seed %d, %s: it is\n%s%s, want\n%s%s", seed, what, all(n.x), n.seen(), all(m.x), m.seen())
			}
		}
		same("opened")
		if len(m.days) == 0 && !slices.Equal(n.x.Close(), m.x.Close()) {
			t.Errorf("seed %d: another day's end", seed)
		}
		n.meet()
		n.meet()
		for range 150 {
			span, i := m.Int63n(second), m.Intn(3)
			if m.Intn(30) == 0 {
				span = m.Int63n(4 * hour) // sessions end by that, at both
			}
			x := m.message(m.traders[i])
			for _, one := range []*market{m, n} {
				one.pass(span)
				one.send(one.traders[i], x)
				for range 4 {
					one.meet()
				}
			}
			same("going on")
		}
		for i, p := range n.traders {
			was := m.traders[i].told
			if len(p.told) > len(was) || !slices.EqualFunc(p.told, was[len(was)-len(p.told):], func(a, b api.Msg) bool { return bare(a) == bare(b) }) {
				t.Errorf("seed %d: %d is told\n%+v, want\n%+v", seed, p.place, p.told, was)
			}
			reports += len(p.told)
			for _, x := range p.told {
				if x.Exec == 3 {
					trades++
				}
			}
		}
		if t.Failed() {
			t.Fatalf("seed %d", seed)
		}
	}
	if reports < 1000 || trades < 300 {
		t.Errorf("only %d reports, %d trades", reports, trades)
	}
}

// TestBothProtocols: the protocol does not count for what is done, booked and told.
func TestBothProtocols(t *testing.T) {
	t.Parallel()
	for seed := range 12 {
		var want string
		for _, kinds := range [][]int{{1, 1, 1}, {2, 2, 2}, {1, 2, 1}, {2, 2, 1}} {
			m := newMarket(t, int64(seed), 200, kinds...)
			m.pass(nine - minute)
			m.meet()
			for range 150 {
				p := m.traders[m.Intn(3)]
				m.send(p, m.message(p))
				m.meet()
				m.pass(m.Int63n(2 * second))
			}
			m.settle()
			got := fmt.Sprintf("%s%x\n%x\n%+v\n", all(m.x), m.x.Tape(), m.packets, m.x.Close())
			for _, p := range m.traders {
				got += fmt.Sprintf("%+v\n%+v\n", p.Orders(), p.told)
			}
			if want == "" {
				want = got
			}
			if got != want {
				t.Errorf("seed %d: by the kinds %v:\n%s, want\n%s", seed, kinds, got, want)
			}
		}
	}
}
