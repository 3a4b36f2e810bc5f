package gateway

import (
	"fmt"
	"math/rand"
	"slices"
	"testing"

	"outcry/api"
	"outcry/bin"
	"outcry/fix"
	"outcry/framer"
	"outcry/msg"
	"outcry/session"
)

// Firms with sessions of their own, over connections that break anywhere: what follows from the promises (P7, P13, P14).

// party is a firm's end, with all that it was given to send, and all that it was told.
type party struct {
	*session.Session
	name    string
	place   int
	account []string
	kind    int
	conn    int // 0: there is none
	f       *framer.Framer
	up      []byte // on its way to the gateway
	down    []byte // on its way to the firm
	given   []api.Msg
	told    []api.Msg
}

// market is a gateway with its parties.
type market struct {
	*rand.Rand
	*world
	parties []*party
	names   int
	done    []api.Command
	events  []api.Event
}

func newMarket(t *testing.T, seed int64, keep int) *market {
	t.Helper()
	m := &market{Rand: rand.New(rand.NewSource(seed))}
	firms := []Firm{{Name: "F1", Accounts: []string{"A1", "A2"}, Keep: keep}, {Name: "F2", Accounts: []string{"B1"}, Keep: keep}, {Name: "F3", Accounts: []string{"Z"}, Keep: keep}}
	e := newEngine(t)
	g, err := New("EX", firms, e)
	expect(t, "New", err, api.OK)
	m.world = &world{t: t, g: g, e: e, now: nine}
	m.tick(nine)
	for n, f := range firms {
		s, err := session.New(api.Link{Own: f.Name, Peer: "EX", Beat: 30, Calls: true, Keep: keep})
		expect(t, "session.New", err, api.OK)
		m.parties = append(m.parties, &party{Session: s, name: f.Name, place: n + 1, account: f.Accounts})
	}
	return m
}

// dial connects a firm, in whichever protocol.
func (m *market) dial(p *party) {
	p.kind = 1 + m.Intn(2)
	n, e := m.g.Connect(p.kind, m.now)
	if e != api.OK {
		return
	}
	p.conn = n
	p.f, _ = framer.New(p.kind)
	p.up, p.down = nil, nil
	expect(m.t, "Connect", p.Connect(m.now), api.OK)
}

// cut ends a connection; of what is on its way to the gateway some may still come.
func (m *market) cut(p *party) {
	if p.conn == 0 {
		return
	}
	m.g.Bytes(p.conn, p.up[:m.Intn(len(p.up)+1)], m.now)
	m.g.Hangup(p.conn, m.now) // it may be gone already
	p.conn = 0
	expect(m.t, "Drop", p.Drop(m.now), api.OK)
}

// name gives one of the names that were given lately.
func (m *market) name() string { return fmt.Sprint("n", max(1, m.names-m.Intn(9))) }

// work gives a message of which all that comes is told by events.
func (m *market) work(p *party) api.Msg {
	m.names++
	id, side := fmt.Sprint("n", m.names), 1+m.Intn(2)
	switch m.Intn(8) {
	case 0:
		return api.Msg{Kind: api.CancelOrder, ID: id, OrigID: m.name(), Symbol: "ABC", Side: side}
	case 1:
		return api.Msg{Kind: api.ReplaceOrder, ID: id, OrigID: m.name(), Symbol: "ABC", Side: side, Qty: 1 + m.Int63n(20), Price: 98 + m.Int63n(5)}
	case 2:
		return api.Msg{Kind: api.MassCancel, ID: id, Account: p.account[0]}
	}
	return limit(id, p.account[m.Intn(len(p.account))], side, 1+m.Int63n(20), 98+m.Int63n(5))
}

// send gives a firm something to send, connected or not.
func (m *market) send(p *party) {
	x := m.work(p)
	x.Seq = p.View().Out
	expect(m.t, "Send", p.Send(x, m.now), api.OK)
	p.given = append(p.given, x)
}

// collect puts what both ends have to say on its way.
func (m *market) collect(p *party) {
	if p.conn == 0 {
		return
	}
	l, ends := p.Out()
	for _, x := range l {
		p.up = append(p.up, frame(m.t, p.kind, x)...)
	}
	b, last, e := m.g.Out(p.conn)
	if e == api.OK {
		p.down = append(p.down, b...)
	}
	if ends || last || e != api.OK {
		m.cut(p)
	}
}

// deliver lets so many bytes come to each end.
func (m *market) deliver(p *party, up, down int) {
	if p.conn == 0 {
		return
	}
	up, down = min(up, len(p.up)), min(down, len(p.down))
	m.g.Bytes(p.conn, p.up[:up], m.now)
	p.up = p.up[up:]
	for _, f := range p.f.Feed(p.down[:down]) {
		x, err := decode(p.kind, f.Bytes)
		if err != nil {
			m.t.Fatalf("%q goes out: %v", f.Bytes, err)
		}
		p.told = append(p.told, p.Hear(x, m.now)...)
	}
	p.down = p.down[down:]
	m.done, m.events = append(m.done, m.g.Commands()...), append(m.events, m.g.Events()...)
}

func (m *market) act() {
	p := m.parties[m.Intn(len(m.parties))]
	switch n := m.Intn(100); {
	case n < 25:
		m.send(p)
	case n < 50:
		m.collect(p)
	case n < 80:
		m.deliver(p, m.Intn(400), m.Intn(800))
	case n < 90:
		m.pass(m.Int63n(5 * second))
	case n < 93:
		m.cut(p)
	default:
		if p.conn == 0 {
			m.dial(p)
		}
	}
}

// pass lets time go by at all ends.
func (m *market) pass(span int64) {
	m.tick(m.now + span)
	for _, p := range m.parties {
		expect(m.t, "Tick", p.Tick(m.now), api.OK)
	}
}

// settle lets connections stay, until all have heard all.
func (m *market) settle() {
	for range 120 {
		m.exchangeAll()
		m.pass(2 * second)
	}
	for range 5 { // what time has asked for, and the answers to it
		m.exchangeAll()
	}
}

// exchangeAll lets all that is to go out come to the other ends.
func (m *market) exchangeAll() {
	for _, p := range m.parties {
		if p.conn == 0 {
			m.dial(p)
		}
		m.collect(p)
		m.deliver(p, len(p.up), len(p.down))
	}
}

// numbers gives those of rows.
func numbers(rows [][2]int) map[int]bool {
	all := map[int]bool{}
	for _, r := range rows {
		for n := r[0]; n <= r[1]; n++ {
			all[n] = true
		}
	}
	return all
}

// appliedOnce: of each firm the commands that were done are those that it sent, in their order, each once, but for those that its session skipped.
func (m *market) appliedOnce(p *party) int {
	skipped := numbers(m.g.firms[p.place-1].Skipped())
	var want, got []string
	for _, x := range p.given {
		if !skipped[x.Seq] {
			want = append(want, fmt.Sprint(x.Kind-api.NewOrder+api.DoNew, x.ID, x.OrigID, x.Account, x.Side, x.Price, x.Qty))
		}
	}
	for _, c := range m.done {
		if c.Owner == p.place {
			got = append(got, fmt.Sprint(c.Kind, c.O.Name, c.Name, c.O.Account, c.O.Side, c.O.Price, c.O.Qty))
		}
	}
	if !slices.Equal(got, want) {
		m.t.Errorf("%s: done\n%v, want\n%v", p.name, got, want)
	}
	return len(skipped)
}

// reportWord tells in a word what a report says, and a report of what event it is.
func reportWord(x api.Msg) string {
	switch x.Kind {
	case api.Execution:
		return fmt.Sprint("event ", x.Exec, " of ", x.ID, " left ", x.Left, " of ", x.Qty, " last ", x.LastQty, " at ", x.LastPrice)
	case api.CancelReject:
		return fmt.Sprint("no to ", x.OrigID, " why ", x.Reason)
	case api.MassReport:
		return fmt.Sprint("mass ", x.ID, " ", x.Count)
	}
	return msg.Name(x.Kind)
}

// eventWord tells the same of an event; the empty word of one that is not reported.
func eventWord(x api.Event) string {
	left := x.O.Qty
	switch x.Kind {
	case api.EvRejected:
		if x.O.Account == "" {
			return fmt.Sprint("no to ", x.Name, " why ", int(x.Err))
		}
		left = 0
	case api.EvCancelled, api.EvExpired:
		left = 0
	case api.EvMass:
		return fmt.Sprint("mass ", x.Name, " ", x.Count)
	case api.EvPhase, api.EvLevel, api.EvAuction:
		return ""
	}
	return fmt.Sprint("event ", x.Kind, " of ", x.Name, " left ", left, " of ", x.O.Qty+x.O.Done, " last ", x.F.Qty, " at ", x.F.Price)
}

// reportedOnce: every event of a firm is reported to it, in order, each once, but for those that are told as skipped.
func (m *market) reportedOnce(p *party) int {
	var want []string
	for _, x := range m.events {
		if word := eventWord(x); x.Owner == p.place && word != "" {
			want = append(want, word)
		}
	}
	heard := map[int]string{}
	last := 0
	for _, x := range p.told {
		if x.Seq <= last {
			m.t.Errorf("%s: %d is heard behind %d", p.name, x.Seq, last)
		}
		last = x.Seq
		heard[x.Seq] = reportWord(x)
	}
	skipped := numbers(p.Skipped())
	at := 0
	for n := 1; n < p.View().In; n++ {
		word, ok := heard[n]
		if !ok && !skipped[n] {
			continue // one of the session's own
		}
		if at >= len(want) || ok && word != want[at] {
			m.t.Errorf("%s: %d is %q, of %q", p.name, n, word, want[min(at, len(want)):])
			return 0
		}
		at++
	}
	if at != len(want) {
		m.t.Errorf("%s: %q was not told", p.name, want[at:])
	}
	return len(skipped)
}

// TestConnectionsBreak: with stores that keep all nothing is skipped; with small ones something is, and told.
func TestConnectionsBreak(t *testing.T) {
	t.Parallel()
	for _, keep := range []int{200, 15, 3} {
		t.Run(fmt.Sprint(keep), func(t *testing.T) {
			t.Parallel()
			skipped, traded := 0, 0
			for seed := range 60 {
				m := newMarket(t, int64(seed), keep)
				for range 400 {
					m.act()
				}
				m.settle()
				for _, p := range m.parties {
					skipped += m.appliedOnce(p) + m.reportedOnce(p)
					if v := p.View(); v.State != api.Up || v.Wants != 0 || v.Waits != 0 || v != m.mirrored(p) {
						t.Errorf("%s is %+v in the end, the other end %+v", p.name, v, m.g.firms[p.place-1].View())
					}
				}
				for _, x := range m.events {
					if x.Kind == api.EvTrade {
						traded++
					}
				}
				if t.Failed() {
					t.Fatalf("seed %d", seed)
				}
			}
			if traded < 300 || (skipped > 0) != (keep < 200) {
				t.Errorf("%d trades, %d skipped", traded, skipped)
			}
		})
	}
}

// mirrored: how the gateway's end says that a party is.
func (m *market) mirrored(p *party) api.LinkView {
	v := m.g.firms[p.place-1].View()
	v.In, v.Out = v.Out, v.In
	return v
}

// script is what comes of messages of a firm in one of the protocols.
func script(t *testing.T, kind int, l []api.Msg) (said []api.Msg, commands []api.Command, events []api.Event) {
	t.Helper()
	w := start(t)
	a := w.end("F1", kind).logsOn()
	for _, x := range l {
		w.now += 100
		a.says(x)
		more, ends := a.messages()
		said = append(said, more...)
		if ends {
			break
		}
	}
	return said, w.g.Commands(), w.g.Events()
}

// TestBothProtocols: the protocol does not count for what is done and told.
func TestBothProtocols(t *testing.T) {
	for seed := range 30 {
		w := newWalker(t, int64(seed), nil)
		var l []api.Msg
		for len(l) < 60 {
			x := w.message(1)
			x.Seq = 0
			_, one := fix.Encode(w.signedFor(x))
			_, two := bin.Encode(w.signedFor(x))
			if one != two {
				t.Fatalf("%+v: %d, %d", x, one, two)
			}
			if one == api.OK && x.Kind != api.Logout && x.Kind != api.SequenceReset {
				l = append(l, x)
			}
		}
		said, commands, events := script(t, framer.Text, l)
		other, commands2, events2 := script(t, framer.Binary, l)
		if !slices.Equal(said, other) || !slices.Equal(commands, commands2) || !slices.Equal(events, events2) {
			t.Errorf("seed %d: the protocols differ", seed)
		}
		if len(said) < 40 || len(commands) < 30 {
			t.Errorf("seed %d: %d messages, %d commands alone", seed, len(said), len(commands))
		}
	}
}

// signedFor gives a message what it needs to be one.
func (w *walker) signedFor(m api.Msg) api.Msg {
	m.Sender, m.Target, m.Seq = "F1", "EX", 1
	return m
}

// TestApart: what one firm does changes no other firm's session but by reports.
func TestApart(t *testing.T) {
	run := func(noise bool) (all []api.Msg, views []api.LinkView) {
		w := start(t)
		a, b := w.end("F1", framer.Text).logsOn(), w.end("F2", framer.Text)
		for n := range 40 {
			w.now += 3 * second
			if noise {
				disturb(b, n)
			}
			a.says(limit(fmt.Sprint("o", n), "A1", api.Buy, 1, 90+int64(n)), api.Msg{Kind: api.AskStatus, ID: fmt.Sprint("o", n-1), Symbol: "ABC", Side: api.Buy})
			w.tick(w.now)
			l, _ := a.messages()
			for _, m := range l {
				m.ExecID, m.OrderID = 0, 0 // these are counted over all firms
				all = append(all, m)
			}
			views = append(views, w.view(1))
		}
		return all, views
	}
	quiet, views := run(false)
	loud, same := run(true)
	if !slices.Equal(quiet, loud) || !slices.Equal(views, same) {
		t.Errorf("F1 hears\n%+v, without the other one\n%+v", loud, quiet)
	}
}

// disturb does what a firm can do wrong, and right, beside another one.
func disturb(b *end, n int) {
	b.t.Helper()
	if b.conn == 0 {
		b.conn = b.connect(b.kind)
		b.says(logon())
		return
	}
	switch n % 7 {
	case 0, 1, 2:
		b.says(with(limit(fmt.Sprint("x", n), "B1", api.Sell, 10, 100), func(m *api.Msg) { m.Symbol = "XY" }))
	case 3:
		b.says(api.Msg{Kind: api.CancelOrder, ID: "c", OrigID: fmt.Sprint("o", n-1), Symbol: "ABC", Side: api.Buy}, api.Msg{Kind: api.MassCancel, ID: "m"})
	case 4:
		x := b.signed(logon())
		x.Sender = "F1"
		c := b.connect(b.kind)
		b.bytes(c, frame(b.t, b.kind, x))
		b.refused(c)
	case 5:
		b.bytes(b.conn, textFrame(fmt.Sprint("35=1|49=F1|56=EX|52=20240103-09:00:00|34=", n, "|")))
		b.says(with(limit("y", "A1", api.Sell, 1, 1), func(m *api.Msg) { m.Seq = b.said + 3 }))
	case 6:
		expect(b.t, "Hangup", b.g.Hangup(b.conn, b.now), api.OK)
		b.conn, b.said = 0, b.view(2).In-1
	}
}
