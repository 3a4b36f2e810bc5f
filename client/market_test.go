package client

import (
	"fmt"
	"math/rand"
	"slices"
	"testing"

	"outcry/api"
	"outcry/clock"
	"outcry/engine"
	"outcry/gateway"
)

// Clients in front of a gateway, over connections that break anywhere: what they know of their orders is what the engine has done (P7, P13, P14).

// party is a client, and its connection.
type party struct {
	*Client
	place    int
	kind     int
	accounts []string
	conn     int    // 0: there is none
	up, down []byte // on their way
	asked    []string
}

type market struct {
	*rand.Rand
	t       *testing.T
	g       *gateway.Gateway
	e       *engine.Engine
	now     int64
	names   int
	parties []*party
	done    []api.Command
	events  []api.Event
}

func newMarket(t *testing.T, seed int64, kinds ...int) *market {
	t.Helper()
	days, _ := clock.NewCalendar()
	abc := api.Instrument{Symbol: "ABC", Lot: 1, Most: 1000, Steps: []api.Step{{From: 0, Tick: 1}}, Reference: 100, Turns: []api.Turn{{Minute: 540, Phase: api.Trading}, {Minute: 1000, Phase: api.Closed}}}
	e, err := engine.New([]api.Instrument{abc}, []api.Account{{Name: "A1"}, {Name: "A2"}, {Name: "B1"}, {Name: "C1", Order: 1500}}, days)
	expect(t, "engine.New", err, api.OK)
	firms := []gateway.Firm{{Name: "F1", Accounts: []string{"A1", "A2"}, Keep: 200}, {Name: "F2", Accounts: []string{"B1"}, Keep: 200}, {Name: "F3", Accounts: []string{"C1"}, Keep: 200}}
	g, err := gateway.New("EX", firms, e)
	expect(t, "gateway.New", err, api.OK)
	m := &market{Rand: rand.New(rand.NewSource(seed)), t: t, g: g, e: e}
	for n, f := range firms {
		c, err := New(api.Link{Own: f.Name, Peer: "EX", Beat: 30, Calls: true, Keep: 200}, kinds[n])
		expect(t, "New", err, api.OK)
		m.parties = append(m.parties, &party{Client: c, place: n + 1, kind: kinds[n], accounts: f.Accounts})
	}
	m.pass(nine)
	return m
}

// pass lets time go by at all ends.
func (m *market) pass(span int64) {
	m.now += span
	expect(m.t, "the gateway's Tick", m.g.Tick(m.now), api.OK)
	for _, p := range m.parties {
		expect(m.t, "Tick", p.Tick(m.now), api.OK)
	}
	m.gather()
}

func (m *market) gather() {
	m.done, m.events = append(m.done, m.g.Commands()...), append(m.events, m.g.Events()...)
}

func (m *market) dial(p *party) {
	if p.conn != 0 {
		return
	}
	conn, e := m.g.Connect(p.kind, m.now)
	if e != api.OK {
		return
	}
	p.conn, p.up, p.down = conn, nil, nil
	expect(m.t, "Connect", p.Connect(m.now), api.OK)
}

// cut ends a connection; of what is on its way some may still come.
func (m *market) cut(p *party) {
	if p.conn == 0 {
		return
	}
	m.deliver(p, m.Intn(len(p.up)+1), m.Intn(len(p.down)+1))
	m.g.Hangup(p.conn, m.now) // it may be gone already
	p.conn = 0
	expect(m.t, "Drop", p.Drop(m.now), api.OK)
}

// deliver lets so many bytes come to each end.
func (m *market) deliver(p *party, up, down int) {
	if p.conn == 0 {
		return
	}
	up, down = min(up, len(p.up)), min(down, len(p.down))
	m.g.Bytes(p.conn, p.up[:up], m.now)
	expect(m.t, "Bytes", p.Bytes(p.down[:down], m.now), api.OK)
	p.up, p.down = p.up[up:], p.down[down:]
	m.gather()
}

// collect puts what both ends have to say on its way.
func (m *market) collect(p *party) {
	if p.conn == 0 {
		return
	}
	up, ends := p.Out()
	p.up = append(p.up, up...)
	down, last, e := m.g.Out(p.conn)
	p.down = append(p.down, down...)
	if ends || last || e != api.OK {
		m.cut(p)
	}
}

// send lets a client ask for something, connected or not.
func (m *market) send(p *party) {
	m.names++
	id := fmt.Sprint("n", m.names)
	known := p.Orders()
	name := ""
	if len(known) > 0 {
		name = known[m.Intn(len(known))].Name
	}
	price, qty := 95+m.Int63n(11), 1+m.Int63n(20)
	var e api.Errno
	switch n := m.Intn(8); {
	case n == 0 && name != "":
		e = p.Cancel(name, id, m.now)
		p.asked = append(p.asked, fmt.Sprint(api.DoCancel, " ", id, " ", name))
	case n < 3 && name != "":
		e = p.Replace(name, id, price, qty, m.now)
		p.asked = append(p.asked, fmt.Sprint(api.DoReplace, " ", id, " ", name))
	default:
		o := newOrder(id)
		o.Account, o.Side, o.Price, o.Qty = p.accounts[m.Intn(len(p.accounts))], 1+m.Intn(2), price, qty
		o.Life = []int{api.Day, api.Day, api.IOC, api.GTC}[m.Intn(4)]
		if m.Intn(9) == 0 {
			o.Type, o.Life, o.Price = api.Market, api.IOC, 0
		}
		e = p.Order(o, m.now)
		p.asked = append(p.asked, fmt.Sprint(api.DoNew, " ", id, " "))
	}
	expect(m.t, "what a client asks for", e, api.OK)
}

func (m *market) act() {
	p := m.parties[m.Intn(len(m.parties))]
	switch n := m.Intn(100); {
	case n < 25:
		m.send(p)
	case n < 50:
		m.collect(p)
	case n < 80:
		m.deliver(p, m.Intn(400), m.Intn(800))
	case n < 90:
		m.pass(m.Int63n(5 * second))
	case n < 93:
		m.cut(p)
	default:
		m.dial(p)
	}
}

// settle lets connections stay, until all have heard all.
func (m *market) settle() {
	for range 120 {
		m.meet()
		m.pass(2 * second)
	}
	for range 5 { // what time has asked for, and the answers to it
		m.meet()
	}
}

func (m *market) meet() {
	for _, p := range m.parties {
		m.dial(p)
		m.collect(p)
		m.deliver(p, len(p.up), len(p.down))
	}
}

// applied: the commands of a firm are what its client asked for, in order, each once.
func (m *market) applied(p *party) {
	var got []string
	for _, c := range m.done {
		if c.Owner == p.place {
			got = append(got, fmt.Sprint(c.Kind, " ", c.O.Name, " ", c.Name))
		}
	}
	if !slices.Equal(got, p.asked) {
		m.t.Errorf("%d: done\n%v, want\n%v", p.place, got, p.asked)
	}
}

// knows: a client knows of its orders what the engine's events say.
func (m *market) knows(p *party) {
	want := map[string]api.View{}
	for _, x := range m.events {
		if x.Owner != p.place || x.O.Account == "" {
			continue // no order of this firm
		}
		v := want[x.Name]
		v.Name, v.OrderID, v.Left, v.Done = x.Name, x.O.ID, x.O.Qty, x.O.Done
		switch x.Kind {
		case api.EvAccepted:
			v.State = 1
		case api.EvTrade:
			v.State = 2
			if v.Left == 0 {
				v.State = 3
			}
			v.Value += x.F.Price * x.F.Qty
		case api.EvReplaced:
			v.State = 1
			if v.Done > 0 {
				v.State = 2
			}
			for name, o := range want {
				if o.OrderID == v.OrderID {
					v.Value = o.Value
					delete(want, name)
				}
			}
		case api.EvCancelled:
			v.State, v.Left = 4, 0
		case api.EvRejected:
			v.State, v.OrderID, v.Left = 5, 0, 0
		default:
			m.t.Errorf("an event of the kind %d", x.Kind)
		}
		want[x.Name] = v
	}
	got := p.Orders()
	if len(got) != len(want) {
		m.t.Errorf("%d knows of %d orders, want %d", p.place, len(got), len(want))
	}
	for _, v := range got {
		if v != want[v.Name] {
			m.t.Errorf("%d knows %+v, want %+v", p.place, v, want[v.Name])
		}
		o, e := m.e.Order(p.place, v.Name)
		if lives := v.State < 3; lives != (e == api.OK) || lives && (o.Qty != v.Left || o.Done != v.Done || o.ID != v.OrderID) {
			m.t.Errorf("%d knows %+v, the engine %+v, %d", p.place, v, o, e)
		}
	}
}

func TestMarket(t *testing.T) {
	t.Parallel()
	states := map[int]int{}
	replaced := 0
	for seed := range 100 {
		m := newMarket(t, int64(seed), 1+seed%2, 1+seed/2%2, 1+seed/4%2)
		for range 400 {
			m.act()
		}
		m.settle()
		for _, p := range m.parties {
			m.applied(p)
			m.knows(p)
			if l := p.Skipped(); len(l) > 0 || p.View().State != api.Up {
				t.Errorf("%d: %v is skipped, %+v", p.place, l, p.View())
			}
			for _, v := range p.Orders() {
				states[v.State]++
			}
			for _, x := range p.Reports() {
				if x.Kind == api.Execution && x.Exec == 5 {
					replaced++
				}
			}
		}
		if t.Failed() {
			t.Fatalf("seed %d", seed)
		}
	}
	for state := 1; state <= 5; state++ {
		if states[state] < 50 {
			t.Errorf("%d orders alone in the state %d", states[state], state)
		}
	}
	if replaced < 50 {
		t.Errorf("%d orders alone were replaced", replaced)
	}
}

// TestBothProtocols: the protocol does not count for what is done, and known.
func TestBothProtocols(t *testing.T) {
	for seed := range 20 {
		var want string
		for _, kinds := range [][]int{{1, 1, 1}, {2, 2, 2}, {1, 2, 1}} {
			m := newMarket(t, int64(seed), kinds...)
			m.meet()
			for range 100 {
				m.send(m.parties[m.Intn(3)])
				m.meet()
				m.pass(second)
			}
			m.settle()
			got := fmt.Sprintf("%+v\n%+v\n", m.done, m.events)
			for _, p := range m.parties {
				got += all(p.Client) + "\n"
			}
			if want == "" {
				want = got
			}
			if got != want {
				t.Errorf("seed %d: by the kinds %v:\n%s, want\n%s", seed, kinds, got, want)
			}
		}
	}
}
