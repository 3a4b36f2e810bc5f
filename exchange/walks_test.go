package exchange

import (
	"bytes"
	"fmt"
	"math"
	"math/rand"
	"slices"
	"strings"
	"testing"

	"outcry/api"
	"outcry/client"
	"outcry/gateway"
	"outcry/tape"
)

// party is a client of a walk, and its connection.
type party struct {
	*client.Client
	name     string
	accounts []string
	kind     int
	conn     int // 0: there is none
	up       []byte
}

// walker does calls at random of an exchange, and of what the chapter says of it.
type walker struct {
	*rand.Rand
	t       *testing.T
	s       Setup
	x       *Exchange
	r       *reading
	parties []*party
	conns   int // so many were made
	now     int64
	calm    int // the greater, the more seldom time leaps
	names   int
	past    []string
	seen    map[string]int // what has come about, over many walks
}

func pick[T any](w *walker, l ...T) T { return l[w.Intn(len(l))] }

func (w *walker) oneIn(n int) bool { return w.Intn(n) == 0 }

// someSetup: of the accounts the engine knows most, and some are no firm's.
func (w *walker) someSetup() Setup {
	s := Setup{Name: "X", Accounts: []api.Account{{Name: "A1"}, {Name: "A2"}, {Name: "B1", Order: 200000}, {Name: "C1", Position: 500}, {Name: "Z"}}}
	s.Instruments = []api.Instrument{
		{Symbol: "ABC", Lot: 1, Most: api.MaxQty, Steps: []api.Step{{From: 0, Tick: 1}}, Reference: 1000, Turns: wholeDay(), Maker: pick(w, -100, 0, 77), Taker: pick(w, 100, 200, 10000)},
		{Symbol: "XY", Lot: 10, Most: 5000, Steps: []api.Step{{From: 0, Tick: 5}}, Band: 1000, Reference: 1000, Turns: turns(540, api.Trading, 1010, api.Closed), Maker: -10000, Taker: 10000},
		{Symbol: "Q", Lot: 1, Most: 9, Steps: []api.Step{{From: 0, Tick: 1}}, Reference: 7, Turns: turns(0, api.Trading)},
	}[:1+w.Intn(3)]
	s.Firms = []gateway.Firm{{Name: "F1", Accounts: []string{"A1", "A2"}}, {Name: "F2", Accounts: []string{"B1", "GHOST"}}, {Name: "F3", Accounts: []string{"C1"}}}[:1+w.Intn(3)]
	for n := range s.Firms {
		s.Firms[n].Keep = pick(w, 1, 5, 50, 200)
	}
	if w.oneIn(3) {
		s.Holidays = pick(w, []int{20240305}, []int{20240304, 20240307}, []int{19700101, 99991231})
	}
	return s
}

func newWalker(t *testing.T, seed int64, seen map[string]int) *walker {
	t.Helper()
	w := &walker{Rand: rand.New(rand.NewSource(seed)), t: t, seen: seen}
	w.s = w.someSetup()
	w.calm = pick(w, 20, 100, 500)
	w.now = pick[int64](w, nine-hour, nine-10*minute, nine-minute, nine-second, nine, nine+hour, monday+16*hour+39*minute)
	if w.oneIn(12) {
		w.now = pick[int64](w, 0, api.MaxTime-2*day)
	}
	if w.oneIn(2) {
		w.open(nil)
	} else {
		w.open(w.someTape())
	}
	return w
}

// differ ends the walk, with all steps up to here.
func (w *walker) differ(form string, a ...any) {
	w.t.Helper()
	w.t.Fatalf("%s\n%s", strings.Join(w.past, "\n"), fmt.Sprintf(form, a...))
}

func (w *walker) step(form string, a ...any) {
	w.past = append(w.past, fmt.Sprintf("at %d: %s", w.now, fmt.Sprintf(form, a...)))
}

func (w *walker) same(got, want api.Errno) {
	w.t.Helper()
	if got != want {
		w.differ("answers %d, want %d", got, want)
	}
}

// samePackets holds packets against what they are to be.
func (w *walker) samePackets(got, want [][]byte) {
	w.t.Helper()
	if !samePackets(got, want) {
		w.differ("packets\n%x, want\n%x", got, want)
	}
}

// open opens an exchange on a tape; all sessions begin anew.
func (w *walker) open(b []byte) {
	w.step("Open(%+v, %x)", w.s, b)
	x, e := Open(w.s, b)
	r, f := newReading(w.s, b)
	w.same(e, f)
	if (x == nil) != (r == nil) {
		w.differ("%v, want %v", x, r)
	}
	if x == nil {
		w.seen["no tape"]++
		if w.x == nil {
			w.open(nil)
		}
		return
	}
	w.x, w.r, w.parties, w.conns = x, r, nil, 0
	for _, f := range w.s.Firms {
		p := &party{name: f.Name, accounts: f.Accounts, kind: 1 + w.Intn(2)}
		p.Client, _ = client.New(api.Link{Own: f.Name, Peer: "X", Beat: 30, Calls: true, Keep: pick(w, 3, 50, 200)}, p.kind)
		w.parties = append(w.parties, p)
	}
	w.note(r.calls)
	w.seen["commands played"] += len(r.commands)
}

// reopen opens the exchange on its own tape, or on what has become of it.
func (w *walker) reopen() {
	b := w.x.Tape()
	switch w.Intn(6) {
	case 0:
		b = b[:w.Intn(len(b)+1)]
	case 1:
		b[w.Intn(pick(w, 4, len(b)))] ^= byte(1 + w.Intn(255))
	case 2:
		b = append(b, "what no record is"[:w.Intn(10)]...)
	case 3:
		b = w.someTape()
	}
	w.seen["opened again"]++
	w.open(b)
}

// someTape gives a tape of commands of all kinds, some of which no gateway would make.
func (w *walker) someTape() []byte {
	reel := tape.New()
	for range w.Intn(60) {
		c := api.Command{Kind: pick(w, 1, 1, 1, 1, 1, 1, 2, 3, 3, 4, 5, 6, 7, 7, 8, 9), Time: max(0, w.now-1000+w.Int63n(2000)), Owner: pick(w, 1, 1, 2, 3, 9, 0)}
		c.O, c.Name = w.someOrder(), w.name(false)
		switch c.Kind {
		case api.DoMass:
			c.O = api.Order{Name: c.O.Name, Account: pick(w, "", c.O.Account), Symbol: pick(w, "", c.O.Symbol), Side: w.Intn(4)}
		case api.DoKill:
			c.Account.Name, c.O = c.O.Account, api.Order{Side: w.Intn(3)}
		case api.DoLimits:
			c.Account = api.Account{Name: c.O.Account, Order: pick[int64](w, 0, 20000), Burst: w.Intn(3), Per: w.Intn(1000)}
		}
		if w.oneIn(12) {
			c.Time = pick[int64](w, 0, 1, nine+day, api.MaxTime, tooLate, 1000000000000000000)
		}
		if w.oneIn(12) {
			c.O.ID, c.O.Done, c.O.Owner, c.O.Qty = w.Intn(5), w.Int63n(5), w.Intn(5), pick(w, c.O.Qty, 0, api.MaxQty, 1000000000000000000)
		}
		reel.Append(c)
	}
	return reel.Bytes()
}

// time moves the time on, or back, and gives what the next call is told.
func (w *walker) time() int64 {
	if w.oneIn(60) {
		return pick[int64](w, -1, tooLate, math.MinInt64, math.MaxInt64)
	}
	switch {
	case w.oneIn(12 * w.calm):
		w.now += pick[int64](w, day, 40*day, 3*hour)
	case w.oneIn(2 * w.calm):
		w.now += w.Int63n(40) * minute
	case w.oneIn(w.calm):
		w.now += w.Int63n(2) * minute
	case w.oneIn(30):
		w.now += pick[int64](w, 30*second, 10*second, 9999)
	case w.oneIn(3):
		w.now += w.Int63n(900)
	case w.oneIn(9):
		return max(0, w.now-w.Int63n(9000))
	}
	w.now = min(w.now, api.MaxTime)
	return w.now
}

// name gives an order's name, most often a new one if it is asked for.
func (w *walker) name(fresh bool) string {
	if fresh && !w.oneIn(20) {
		w.names++
		return fmt.Sprint("n", w.names)
	}
	return fmt.Sprint("n", max(1, w.names-w.Intn(6)))
}

// someOrder: most of them can come, and many trade.
func (w *walker) someOrder() api.Order {
	i := pick(w, w.s.Instruments...)
	o := api.Order{Name: w.name(true), Account: pick(w, "A1", "A2", "B1", "C1", "Z", "GHOST"), Symbol: i.Symbol, Side: 1 + w.Intn(2), Type: api.Limit, Life: pick(w, api.Day, api.Day, api.Day, api.GTC, api.IOC, api.PostOnly, api.AtOpen, api.FOK)}
	o.Price, o.Qty = max(1, i.Reference-3*i.Steps[0].Tick+w.Int63n(7)*i.Steps[0].Tick), i.Lot*(1+w.Int63n(9))
	if w.oneIn(4) && i.Symbol == "ABC" {
		o.Qty *= pick[int64](w, 10, 100)
		o.Show = pick(w, 0, o.Qty/10)
	}
	switch w.Intn(10) {
	case 0:
		o.Type, o.Price, o.Life = api.Market, 0, pick(w, api.IOC, api.AtOpen)
	case 1:
		o.Type, o.Stop, o.Life = api.StopLimit, o.Price, api.Day
	case 2:
		o.Type, o.Stop, o.Price, o.Life = api.Stop, o.Price, 0, api.GTC
	}
	if w.oneIn(40) {
		o.Symbol = "NONE"
	}
	return o
}

// order gives a firm's own, most often.
func (w *walker) order(p *party) api.Msg {
	o := w.someOrder()
	if !w.oneIn(12) {
		o.Account = pick(w, p.accounts...)
	}
	return api.Msg{Kind: api.NewOrder, ID: o.Name, Account: o.Account, Symbol: o.Symbol, Side: o.Side, Type: o.Type, Life: o.Life, Price: o.Price, Stop: o.Stop, Qty: o.Qty, Show: o.Show}
}

// clientsNow gives the time as clients are told it, who are not to be confused.
func (w *walker) clientsNow() int64 { return min(max(w.now, 0), api.MaxTime) }

// ask lets a firm ask for something, connected or not.
func (w *walker) ask(p *party) {
	now, known := w.clientsNow(), ""
	if l := p.Orders(); len(l) > 0 {
		known = pick(w, l...).Name
	}
	switch n := w.Intn(20); {
	case n == 0:
		p.Cancel(known, w.name(true), now)
	case n < 4:
		p.Replace(known, w.name(true), pick[int64](w, 0, 998, 1000, 1005), 1+w.Int63n(50), now)
	case n == 4:
		p.Send(api.Msg{Kind: api.MassCancel, ID: w.name(true), Account: pick(w, "", pick(w, p.accounts...), "Z"), Side: w.Intn(3)}, now)
	case n == 5:
		p.Send(api.Msg{Kind: api.AskStatus, ID: w.name(false), Symbol: "ABC", Side: 1}, now)
	case n == 6:
		p.Send(api.Msg{Kind: api.Status, Symbol: "ABC", Phase: 3}, now)
	default:
		p.Order(w.order(p), now)
	}
}

// party gives one that is connected; nil, if that is asked for in vain.
func (w *walker) party() *party {
	for range 5 {
		if p := pick(w, w.parties...); p.conn != 0 {
			return p
		}
	}
	return nil
}

// conn gives the number of a connection, most often of one that is there.
func (w *walker) conn() int {
	if p := w.party(); p != nil && !w.oneIn(20) {
		return p.conn
	}
	return pick(w, 0, -1, 1, w.conns, w.conns+1, math.MaxInt, math.MinInt)
}

func (w *walker) connect(kind int) int {
	now := w.time()
	w.step("Connect(%d, %d)", kind, now)
	got, e := w.x.Connect(kind, now)
	want, f := w.r.connect(kind, now)
	if got != want {
		w.differ("answers %d, want %d", got, want)
	}
	w.same(e, f)
	w.seen[fmt.Sprint("Connect answers ", int(e))]++
	w.conns = max(w.conns, got)
	return got
}

// strangers connect, and say nothing, or something else.
func (w *walker) strangers() {
	for range pick(w, 1, 1, 1, 9) {
		w.connect(pick(w, 1, 2, 1, 2, 0, 3, -1))
	}
}

func (w *walker) dial() {
	p := pick(w, w.parties...)
	if p.conn != 0 {
		return
	}
	if p.conn = w.connect(p.kind); p.conn != 0 {
		p.up = nil
		p.Connect(w.clientsNow())
	}
}

func (w *walker) bytes(conn int, b []byte) {
	now := w.time()
	w.step("Bytes(%d, %q, %d)", conn, b, now)
	e, f := w.x.Bytes(conn, b, now), w.r.bytes(conn, b, now)
	w.same(e, f)
	w.seen[fmt.Sprint("Bytes answers ", int(e))]++
	w.note(w.r.calls[len(w.r.calls)-1:])
}

// note counts what has come about, so that it can be said that walks come across all there is.
func (w *walker) note(l []told) {
	for _, c := range l {
		for _, x := range c.events {
			w.seen[fmt.Sprint("event ", x.Kind)]++
			if x.Kind == api.EvTrade {
				w.seen[fmt.Sprint("taker ", x.F.Taker)]++
			}
		}
	}
}

// deliver lets bytes of a firm come, now and then spoilt.
func (w *walker) deliver() {
	p := w.party()
	if p == nil {
		w.dial()
		return
	}
	b, ends := p.Out()
	p.up = append(p.up, b...)
	n := len(p.up)
	if w.oneIn(4) {
		n = w.Intn(n + 1)
	}
	b, p.up = p.up[:n], p.up[n:]
	if w.oneIn(30) && n > 0 {
		b[w.Intn(n)] ^= byte(1 + w.Intn(255))
	}
	w.bytes(p.conn, b)
	if ends {
		w.hangup(p.conn)
	}
}

func (w *walker) hangup(conn int) {
	now := w.time()
	w.step("Hangup(%d, %d)", conn, now)
	e, f := w.x.Hangup(conn, now), w.r.hangup(conn, now)
	w.same(e, f)
	if e == api.OK {
		w.gone(conn)
	}
}

// gone lets a firm know that its connection is there no more.
func (w *walker) gone(conn int) {
	for _, p := range w.parties {
		if p.conn == conn {
			p.conn = 0
			p.Drop(w.clientsNow())
		}
	}
}

func (w *walker) tick() {
	now := w.time()
	w.step("Tick(%d)", now)
	w.same(w.x.Tick(now), w.r.tick(now))
	w.note(w.r.calls[len(w.r.calls)-1:])
	for _, p := range w.parties {
		p.Tick(w.clientsNow())
	}
}

func (w *walker) out(conn int) {
	w.step("Out(%d)", conn)
	got, ends, e := w.x.Out(conn)
	want, last, f := w.r.g.Out(conn)
	if !bytes.Equal(got, want) || ends != last {
		w.differ("gives\n%q, %v, want\n%q, %v", got, ends, want, last)
	}
	w.same(e, f)
	for _, p := range w.parties {
		if p.conn == conn {
			p.Bytes(got, w.clientsNow())
		}
	}
	if ends {
		w.gone(conn)
	}
}

// asks holds an answer against what the chapter says.
func (w *walker) asks() {
	switch w.Intn(7) {
	case 0:
		w.step("Packets")
		got := w.x.Packets()
		w.samePackets(got, w.r.packets())
		w.seen["packets"] += len(got)
	case 1:
		from := w.Intn(60) - 2
		to := pick(w, from, from+5, math.MaxInt, math.MinInt)
		w.step("Again(%d, %d)", from, to)
		w.samePackets(w.x.Again(from, to), w.r.again(from, to))
	case 2:
		now := pick(w, w.now, 0, -1, api.MaxTime, tooLate, math.MinInt64, math.MaxInt64)
		w.step("Snapshot(%d)", now)
		w.samePackets(w.x.Snapshot(now), w.r.snapshot(now))
	case 3:
		w.step("Tape")
		if got, want := w.x.Tape(), w.r.tape(); !bytes.Equal(got, want) {
			w.differ("gives\n%x, want\n%x", got, want)
		}
	case 4:
		w.depths()
	case 5:
		for _, account := range []string{"", "A1", "A2", "B1", "C1", "Z", "GHOST", "NOBODY"} {
			symbol := pick(w, "ABC", "XY", "Q", "NONE", "")
			w.step("Balance(%q, %q)", account, symbol)
			qty, cash := w.x.Balance(account, symbol)
			if q, c := w.r.balance(account, symbol); qty != q || cash != c {
				w.differ("gives %d, %d, want %d, %d", qty, cash, q, c)
			}
		}
	case 6:
		if w.oneIn(3) {
			w.step("Close")
			got := w.x.Close()
			if want := w.r.close(); !slices.Equal(got, want) {
				w.differ("gives\n%+v, want\n%+v", got, want)
			}
			w.seen["lines of a day"] += len(got)
		}
	}
}

// depths asks for all levels, and for some that are none.
func (w *walker) depths() {
	all := w.r.depths(w.Intn(20))
	for _, i := range w.s.Instruments {
		for side, word := range []string{" nothing", " buy", " sell"} {
			w.step("Depth(%q, %d)", i.Symbol, side)
			l, e := w.x.Depth(i.Symbol, side)
			w.same(e, api.OK)
			if want := all[i.Symbol+word]; !slices.Equal(l, want) {
				w.differ("gives %v, want %v", l, want)
			}
			w.seen["levels"] += len(l)
		}
	}
	symbol := pick(w, "NONE", "", "abc")
	w.step("Depth(%q, 1)", symbol)
	if l, e := w.x.Depth(symbol, 1); len(l) > 0 || e != api.ErrSymbol {
		w.differ("gives %v, %d", l, e)
	}
}

func (w *walker) act() {
	switch n := w.Intn(200); {
	case n < 60:
		w.ask(pick(w, w.parties...))
	case n < 100:
		w.deliver()
	case n < 130:
		w.out(w.conn())
	case n < 150:
		w.tick()
	case n < 160:
		w.dial()
	case n < 164:
		w.hangup(w.conn())
	case n < 168:
		w.bytes(w.conn(), []byte("8=FIX.4.4\x019=5\x01OC\x00\x52\x01"[:w.Intn(20)]))
	case n < 170:
		w.strangers()
	case n < 198:
		w.asks()
	default:
		if w.oneIn(3) {
			w.reopen()
		}
	}
}

func TestWalks(t *testing.T) {
	const parts, walks = 8, 100
	var seen [parts]map[string]int
	t.Run("all", func(t *testing.T) {
		for part := range parts {
			seen[part] = map[string]int{}
			t.Run(fmt.Sprint(part), func(t *testing.T) {
				t.Parallel()
				for walk := range walks {
					w := newWalker(t, int64(part*walks+walk), seen[part])
					for range 400 {
						w.act()
					}
				}
			})
		}
	})
	// A walk that does not come across something says nothing of it.
	for _, what := range []string{
		"no tape", "opened again", "commands played", "packets", "lines of a day", "levels", "taker 0", "taker 1", "taker 2",
		"event 1", "event 2", "event 3", "event 4", "event 5", "event 6", "event 7", "event 8", "event 9", "event 10", "event 11",
		"Connect answers 0", "Connect answers 1", "Connect answers 122", "Bytes answers 0", "Bytes answers 1", "Bytes answers 220",
	} {
		sum := 0
		for _, part := range seen {
			sum += part[what]
		}
		if sum < 20 {
			t.Errorf("%s: %d times alone", what, sum)
		}
		t.Logf("%s: %d", what, sum)
	}
}
