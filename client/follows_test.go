package client

import (
	"fmt"
	"math/rand"
	"slices"
	"testing"

	"outcry/api"
	"outcry/framer"
	"outcry/msg"
	"outcry/session"
)

// A client and a session of its peer, over connections that break anywhere: what follows from the promises.

type pair struct {
	*rand.Rand
	t        *testing.T
	c        *Client
	peer     *session.Session
	f        *framer.Framer // the peer's
	kind     int
	now      int64
	there    bool   // a connection
	up, down []byte // on their way
	names    int

	sent  []api.Msg // what the client was given to send
	done  []api.Msg // what the peer has heard of it
	given []api.Msg // what the peer was given to send
	told  []api.Msg // what the client has heard of it
}

func newPair(t *testing.T, seed int64, keep int) *pair {
	t.Helper()
	p := &pair{Rand: rand.New(rand.NewSource(seed)), t: t, now: nine}
	p.kind = 1 + p.Intn(2)
	l := aLink()
	l.Keep = keep
	c, e := New(l, p.kind)
	expect(t, "New", e, api.OK)
	l.Own, l.Peer, l.Calls = l.Peer, l.Own, false
	s, e := session.New(l)
	expect(t, "session.New", e, api.OK)
	p.c, p.peer = c, s
	return p
}

func (p *pair) dial() {
	if p.there {
		return
	}
	p.there = true
	expect(p.t, "Connect", p.c.Connect(p.now), api.OK)
	expect(p.t, "the peer's Connect", p.peer.Connect(p.now), api.OK)
	p.f, _ = framer.New(p.kind)
	p.up, p.down = nil, nil
}

// cut ends the connection; of what is on its way some may still come, one way.
func (p *pair) cut() {
	if !p.there {
		return
	}
	p.deliver(p.Intn(len(p.up)+1), p.Intn(len(p.down)+1))
	p.there = false
	expect(p.t, "Drop", p.c.Drop(p.now), api.OK)
	expect(p.t, "the peer's Drop", p.peer.Drop(p.now), api.OK)
}

// send lets the client send something, connected or not.
func (p *pair) send() {
	p.names++
	id, seq := fmt.Sprint("n", p.names), p.c.View().Out
	m := newOrder(id)
	e := api.OK
	if known := p.c.Orders(); len(known) > 0 && p.Intn(2) == 0 {
		name := known[p.Intn(len(known))].Name
		m = api.Msg{Kind: api.CancelOrder, ID: id, OrigID: name, Symbol: "ABC", Side: api.Sell}
		if p.Intn(2) == 0 {
			m.Kind, m.Price, m.Qty = api.ReplaceOrder, 15000, 50
			e = p.c.Replace(name, id, 15000, 50, p.now)
		} else {
			e = p.c.Cancel(name, id, p.now)
		}
	} else {
		e = p.c.Order(m, p.now)
	}
	expect(p.t, "what the client sends", e, api.OK)
	m.Seq = seq
	p.sent = append(p.sent, m)
}

// give gives the peer something to send, connected or not.
func (p *pair) give() {
	if p.names == 0 {
		return // whoever is told of an order that is yet to come can do nothing with it
	}
	id := fmt.Sprint("n", 1+p.Intn(p.names))
	m := happened(id, 1, 1, p.Int63n(90), p.Int63n(10))
	switch p.Intn(4) {
	case 0:
		m = trade(id, 2, p.Int63n(50), p.Int63n(50), 1+p.Int63n(50), 1+p.Int63n(20000))
	case 1:
		to := fmt.Sprint([]string{"n", "n", "m"}[p.Intn(3)], 1+p.Intn(p.names)) // the peer's own, or one that was used
		m = renamed(id, to, p.Int63n(50), p.Int63n(50))
	case 2:
		m = api.Msg{Kind: api.CancelReject, ID: "c", OrigID: id, State: 5}
	}
	m.Seq = p.peer.View().Out
	expect(p.t, "what the peer sends", p.peer.Send(m, p.now), api.OK)
	p.given = append(p.given, m)
}

// collect puts what both ends have to say on its way.
func (p *pair) collect() {
	if !p.there {
		return
	}
	b, ends := p.c.Out()
	p.up = append(p.up, b...)
	l, last := p.peer.Out()
	for _, m := range l {
		p.down = append(p.down, frame(p.t, p.kind, m)...)
	}
	if ends || last {
		p.cut()
	}
}

// deliver lets so many bytes come to each end.
func (p *pair) deliver(up, down int) {
	if !p.there {
		return
	}
	up, down = min(up, len(p.up)), min(down, len(p.down))
	for _, x := range p.f.Feed(p.up[:up]) {
		m, err := decode(p.kind, x.Bytes)
		if err != nil {
			p.t.Fatalf("%q goes out: %v", x.Bytes, err)
		}
		p.done = append(p.done, p.peer.Hear(m, p.now)...)
	}
	expect(p.t, "Bytes", p.c.Bytes(p.down[:down], p.now), api.OK)
	p.up, p.down = p.up[up:], p.down[down:]
	if p.Intn(4) == 0 {
		p.take()
	}
}

func (p *pair) take() { p.told = append(p.told, p.c.Reports()...) }

func (p *pair) pass(span int64) {
	p.now += span
	expect(p.t, "Tick", p.c.Tick(p.now), api.OK)
	expect(p.t, "the peer's Tick", p.peer.Tick(p.now), api.OK)
}

func (p *pair) act() {
	switch n := p.Intn(100); {
	case n < 12:
		p.send()
	case n < 30:
		p.give()
	case n < 55:
		p.collect()
	case n < 82:
		p.deliver(p.Intn(400), p.Intn(800))
	case n < 90:
		p.pass(p.Int63n(5 * second))
	case n < 93:
		p.cut()
	default:
		p.dial()
	}
}

// settle lets a connection stay, until both have heard all.
func (p *pair) settle() {
	for range 120 {
		p.meet()
		p.pass(2 * second)
	}
	for range 5 { // what time has asked for, and the answers to it
		p.meet()
	}
	p.take()
}

func (p *pair) meet() {
	p.dial()
	p.collect()
	p.deliver(len(p.up), len(p.down))
}

// once holds what was heard against what was given to send: all of it, in its order, each once, but for what was skipped.
func once(t *testing.T, what string, given, heard []api.Msg, skipped [][2]int) int {
	t.Helper()
	all := 0
	var want []api.Msg
	for _, m := range given {
		if slices.ContainsFunc(skipped, func(r [2]int) bool { return r[0] <= m.Seq && m.Seq <= r[1] }) {
			all++
			continue
		}
		want = append(want, msg.Business(m))
	}
	var got []api.Msg
	for _, m := range heard {
		got = append(got, msg.Business(m))
	}
	if !slices.Equal(got, want) {
		t.Errorf("%s: heard\n%+v, want\n%+v", what, got, want)
	}
	return all
}

// views holds what is known of orders against the reports: Value is what the trades were worth, Left and Done are those of the last one.
func (p *pair) views() (renames int) {
	var orders []api.View
	at := func(name string) int {
		return slices.IndexFunc(orders, func(v api.View) bool { return v.Name == name })
	}
	for _, m := range p.sent {
		if m.Kind == api.NewOrder {
			orders = append(orders, api.View{Name: m.ID, Left: m.Qty})
		}
	}
	for _, m := range p.told {
		if m.Kind != api.Execution {
			continue
		}
		n := at(m.ID)
		if old := at(m.OrigID); m.Exec == 5 && old >= 0 && n < 0 {
			n = old
			orders[n].Name = m.ID
			renames++
		}
		if n >= 0 {
			orders[n].OrderID, orders[n].State, orders[n].Left, orders[n].Done = m.OrderID, m.State, m.Left, m.Done
			orders[n].Value += m.LastPrice * m.LastQty
		}
	}
	slices.SortFunc(orders, func(a, b api.View) int {
		if a.Name < b.Name {
			return -1
		}
		return 1
	})
	if got := p.c.Orders(); !slices.Equal(got, orders) {
		p.t.Errorf("Orders: %+v, want %+v", got, orders)
	}
	return renames
}

// TestConnectionsBreak: with stores that keep all nothing is skipped; with small ones something is, and told.
func TestConnectionsBreak(t *testing.T) {
	t.Parallel()
	for _, keep := range []int{200, 15, 3} {
		t.Run(fmt.Sprint(keep), func(t *testing.T) {
			t.Parallel()
			skipped, heard, renames := 0, 0, 0
			for seed := range 100 {
				p := newPair(t, int64(seed), keep)
				for range 400 {
					p.act()
				}
				p.settle()
				skipped += once(t, "the client", p.given, p.told, p.c.Skipped())
				skipped += once(t, "the peer", p.sent, p.done, p.peer.Skipped())
				heard += len(p.told) + len(p.done)
				if keep == 200 {
					renames += p.views()
				}
				v, w := p.c.View(), p.peer.View()
				if v.State != api.Up || v.Wants != 0 || v.Waits != 0 || v.In != w.Out || v.Out != w.In {
					t.Errorf("the client is %+v in the end, the peer %+v", v, w)
				}
				if t.Failed() {
					t.Fatalf("seed %d", seed)
				}
			}
			if heard < 3000 || (skipped > 0) != (keep < 200) || keep == 200 && renames < 100 {
				t.Errorf("%d heard, %d skipped, %d renamed", heard, skipped, renames)
			}
		})
	}
}

// TestPieces: in whatever pieces bytes come, the client does the same.
func TestPieces(t *testing.T) {
	eachKind(t, func(t *testing.T, kind int) {
		for seed := range 20 {
			w := newWalker(t, int64(seed), map[string]int{})
			w.kind, w.names = kind, 8
			var stream []byte
			for n := range 60 {
				m := w.message()
				if m.Kind == api.Logout || m.Kind == api.SequenceReset && !m.Fill {
					continue
				}
				m.Sender, m.Target, m.Time, m.Seq = "EX", "FIRM", nine, 2+n
				b, e := encode(kind, m)
				if e != api.OK {
					continue
				}
				if w.oneIn(12) {
					b[w.Intn(len(b))] ^= 1
				}
				stream = append(stream, b...)
				if w.oneIn(9) {
					stream = append(stream, "8=FIX.4.4\x019=4OC\x00"[:w.Intn(15)]...)
				}
			}
			var want string
			for _, most := range []int{len(stream), 1, 2, 50, 700} {
				d := start(t, kind)
				d.sends("n1", "n2", "n3", "n4", "n5")
				for rest := stream; len(rest) > 0; {
					n := min(1+w.Intn(most), len(rest))
					if most == len(stream) {
						n = most
					}
					d.bytes(rest[:n])
					rest = rest[n:]
				}
				b, ends := d.Out()
				got := fmt.Sprintf("%q %v %s", b, ends, all(d.Client))
				if want == "" {
					want = got
				}
				if got != want {
					t.Errorf("seed %d: in pieces of at most %d:\n%s, want\n%s", seed, most, got, want)
				}
			}
		}
	})
}
