package client

import (
	"math/big"
	"sort"

	"outcry/api"
	"outcry/framer"
	"outcry/msg"
	"outcry/session"
)

// A second reading of the chapter, by other means, against which the package is held: orders stand in a list in which nothing is ever removed, all bytes of a connection are kept and looked through anew whenever some come, and worth is summed up without bounds.

// thing is an order by the chapter's words.
type thing struct {
	name, symbol    string
	side, id, state int
	left, done      int64
	worth           *big.Int
}

// reading is a client by the chapter's words.
type reading struct {
	s         *session.Session
	kind      int
	connected bool
	stream    []byte
	taken     int // how many of the stream's frames were taken
	things    []*thing
	used      []string
	heard     []api.Msg
}

func newReading(l api.Link, kind int) *reading {
	s, _ := session.New(l)
	return &reading{s: s, kind: kind}
}

func (r *reading) isUsed(name string) bool {
	for _, u := range r.used {
		if u == name {
			return true
		}
	}
	return false
}

func (r *reading) use(name string) {
	if !r.isUsed(name) {
		r.used = append(r.used, name)
	}
}

// known gives the order that is known by a name, or nil.
func (r *reading) known(name string) *thing {
	for _, x := range r.things {
		if x.name == name {
			return x
		}
	}
	return nil
}

func (r *reading) connect(now int64) api.Errno {
	e := r.s.Connect(now)
	if e == api.OK {
		r.connected, r.stream, r.taken = true, nil, 0
	}
	return e
}

func (r *reading) drop(now int64) api.Errno {
	e := r.s.Drop(now)
	if e == api.OK {
		r.connected = false
	}
	return e
}

// sent is what C3 and C4 have in common.
func (r *reading) sent(m api.Msg, now int64) api.Errno {
	if r.isUsed(m.ID) {
		return 120
	}
	if len(r.used) >= 5000 {
		return 122
	}
	e := r.s.Send(m, now)
	if e == api.OK {
		r.use(m.ID)
	}
	return e
}

func (r *reading) order(m api.Msg, now int64) api.Errno {
	if m.Kind != 8 {
		return 30
	}
	e := r.sent(m, now)
	if e == api.OK {
		r.things = append(r.things, &thing{name: m.ID, symbol: m.Symbol, side: m.Side, left: m.Qty, worth: new(big.Int)})
	}
	return e
}

func (r *reading) cancel(name, fresh string, now int64) api.Errno {
	o := r.known(name)
	if o == nil {
		return 121
	}
	return r.sent(api.Msg{Kind: 9, ID: fresh, OrigID: name, Symbol: o.symbol, Side: o.side}, now)
}

func (r *reading) replace(name, fresh string, price, qty, now int64) api.Errno {
	o := r.known(name)
	if o == nil {
		return 121
	}
	return r.sent(api.Msg{Kind: 10, ID: fresh, OrigID: name, Symbol: o.symbol, Side: o.side, Price: price, Qty: qty}, now)
}

func (r *reading) bytes(b []byte, now int64) api.Errno {
	if now < 0 || now > api.MaxTime {
		return 1
	}
	if !r.connected {
		return 2
	}
	r.stream = append(r.stream, b...)
	f, _ := framer.New(r.kind)
	l := f.Feed(r.stream)
	for ; r.taken < len(l); r.taken++ {
		m, err := decode(r.kind, l[r.taken].Bytes)
		if err != nil {
			continue
		}
		for _, x := range r.s.Hear(m, now) {
			r.hear(x)
		}
	}
	return 0
}

// hear is what C5 says of a message that is to be done.
func (r *reading) hear(m api.Msg) {
	r.heard = append(r.heard, m)
	if msg.Name(m.Kind) != "Execution" {
		return
	}
	if m.Exec == 5 && m.OrigID != "" && r.known(m.OrigID) != nil && r.known(m.ID) == nil {
		r.known(m.OrigID).name = m.ID
		r.use(m.ID)
	}
	o := r.known(m.ID)
	if o == nil {
		return
	}
	o.id, o.state, o.left, o.done = m.OrderID, m.State, m.Left, m.Done
	if m.Exec == 3 {
		sum := new(big.Int).Mul(big.NewInt(m.LastPrice), big.NewInt(m.LastQty))
		if sum.Add(sum, o.worth); sum.IsInt64() {
			o.worth = sum
		}
	}
}

func (r *reading) out() ([]byte, bool) {
	l, ends := r.s.Out()
	var b []byte
	for _, m := range l {
		x, _ := encode(r.kind, m)
		b = append(b, x...)
	}
	return b, ends
}

func (r *reading) orders() []api.View {
	var l []api.View
	for _, x := range r.things {
		l = append(l, api.View{Name: x.name, OrderID: x.id, State: x.state, Left: x.left, Done: x.done, Value: x.worth.Int64()})
	}
	sort.Slice(l, func(a, b int) bool { return l[a].Name < l[b].Name })
	return l
}
