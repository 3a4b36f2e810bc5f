package gateway

import (
	"fmt"

	"outcry/api"
	"outcry/bin"
	"outcry/engine"
	"outcry/fix"
	"outcry/framer"
	"outcry/session"
)

// A second reading of the chapter, by other means, against which the package is held: no connection is ever forgotten, all bytes of one are kept and looked through anew whenever some come, and reports are put together from words, field by field.

// line is a connection, as it was from its beginning on.
type line struct {
	kind   int
	since  int64
	stream []byte
	taken  int    // how many of the stream's frames were taken
	is     string // open, bound, refused, gone
	place  int    // of the firm
}

// reading is a gateway by the chapter's words. At place 0 of its lists there is nothing, so that places and numbers are the chapter's.
type reading struct {
	own      string
	names    []string
	whose    map[string]int // the place of the firm that has an account
	sessions []*session.Session
	e        *engine.Engine
	lines    []*line
	t        int64
	made     int
	commands []api.Command
	events   []api.Event
}

func newReading(own string, firms []Firm, e *engine.Engine) *reading {
	r := &reading{own: own, e: e, names: []string{""}, sessions: []*session.Session{nil}, whose: map[string]int{}, lines: []*line{{is: "gone"}}}
	for n, f := range firms {
		for _, a := range f.Accounts {
			r.whose[a] = n + 1
		}
		s, _ := session.New(api.Link{Own: own, Peer: f.Name, Beat: 30, Keep: f.Keep})
		r.names, r.sessions = append(r.names, f.Name), append(r.sessions, s)
	}
	return r
}

func (r *reading) there() int {
	n := 0
	for _, l := range r.lines {
		if l.is != "gone" {
			n++
		}
	}
	return n
}

// line gives the connection of a number that is there, or nil.
func (r *reading) line(conn int) *line {
	if conn < 0 || conn >= len(r.lines) || r.lines[conn].is == "gone" {
		return nil
	}
	return r.lines[conn]
}

// refuses tells why a call about a connection is refused; if it is not, time moves.
func (r *reading) refuses(conn int, now int64) api.Errno {
	if now < 0 || now > api.MaxTime {
		return api.ErrArg
	}
	if r.line(conn) == nil {
		return api.ErrConn
	}
	r.t = max(r.t, now)
	return api.OK
}

func (r *reading) connect(kind int, now int64) (int, api.Errno) {
	if kind != framer.Text && kind != framer.Binary || now < 0 || now > api.MaxTime {
		return 0, api.ErrArg
	}
	r.t = max(r.t, now)
	if r.there() == 8 {
		return 0, api.ErrMany
	}
	r.lines = append(r.lines, &line{kind: kind, since: r.t, is: "open"})
	return len(r.lines) - 1, api.OK
}

func (r *reading) bytes(conn int, b []byte, now int64) api.Errno {
	if e := r.refuses(conn, now); e != api.OK {
		return e
	}
	l := r.line(conn)
	if l.is == "refused" {
		return api.OK
	}
	l.stream = append(l.stream, b...)
	f, _ := framer.New(l.kind)
	all := f.Feed(l.stream)
	for l.taken < len(all) && l.is != "refused" {
		frame := all[l.taken].Bytes
		l.taken++
		var m api.Msg
		var err error
		if l.kind == framer.Text {
			m, err = fix.Decode(frame)
		} else {
			m, err = bin.Decode(frame)
		}
		if err != nil {
			r.wrong(l, frame)
		} else {
			r.comes(l, m)
		}
	}
	return api.OK
}

func (r *reading) isConnected(place int) bool {
	for _, l := range r.lines {
		if l.is == "bound" && l.place == place {
			return true
		}
	}
	return false
}

// comes is Y4.
func (r *reading) comes(l *line, m api.Msg) {
	if l.is == "open" {
		l.is = "refused"
		for place := 1; place < len(r.names); place++ {
			if m.Kind == api.Logon && m.Sender == r.names[place] && m.Target == r.own && !r.isConnected(place) {
				l.is, l.place = "bound", place
				r.sessions[place].Connect(r.t)
				break
			}
		}
	}
	if l.is == "bound" {
		r.heard(l.place, m)
	}
}

func (r *reading) heard(place int, m api.Msg) {
	for _, x := range r.sessions[place].Hear(m, r.t) {
		r.done(place, x)
	}
}

// done is Y4's table.
func (r *reading) done(place int, m api.Msg) {
	c := api.Command{Owner: place, O: api.Order{Name: m.ID, Symbol: m.Symbol, Side: m.Side}}
	c.O.Account, c.Name = m.Account, m.OrigID
	own := r.whose[m.Account] == place
	refused := api.Msg{Kind: api.Refused, RefSeq: m.Seq, RefKind: m.Kind, Reason: 30}
	switch m.Kind {
	case api.NewOrder:
		c.Kind = api.DoNew
		c.O.Type, c.O.Life, c.O.Price, c.O.Stop, c.O.Qty, c.O.Show, c.O.Least, c.O.Until = m.Type, m.Life, m.Price, m.Stop, m.Qty, m.Show, m.Least, m.Until
		if !own {
			r.execution(place, "REJECTED", api.Event{Name: m.ID, O: c.O, Err: 161}, "")
			return
		}
	case api.CancelOrder:
		c.Kind = api.DoCancel
	case api.ReplaceOrder:
		c.Kind = api.DoReplace
		c.O.Price, c.O.Stop, c.O.Qty = m.Price, m.Stop, m.Qty
	case api.MassCancel:
		c.Kind = api.DoMass
		if m.Account != "" && !own {
			r.send(place, api.Msg{Kind: api.MassReport, ID: m.ID, Symbol: m.Symbol, Reason: 161})
			return
		}
	case api.AskStatus:
		if o, e := r.e.Order(place, m.ID); e == api.OK {
			r.execution(place, "ASKED", api.Event{Name: m.ID, O: o}, "")
			return
		}
		refused.Reason = 121
		fallthrough
	default:
		r.send(place, refused)
		return
	}
	r.do(c)
}

func (r *reading) do(c api.Command) {
	c.Time = r.t
	l := r.e.Do(c)
	r.commands, r.events = append(r.commands, c), append(r.events, l...)
	for _, x := range l {
		r.reported(c, x)
	}
}

// reported is Y5.
func (r *reading) reported(c api.Command, x api.Event) {
	if x.Kind == api.EvPhase {
		for place, s := range r.sessions {
			if place > 0 && s.View().State == 2 {
				r.send(place, api.Msg{Kind: api.Status, Symbol: x.Symbol, Phase: x.Phase})
			}
		}
		return
	}
	if x.Owner < 1 || x.Owner >= len(r.names) {
		return
	}
	what := map[int]string{api.EvAccepted: "ACCEPTED", api.EvTrade: "TRADED", api.EvCancelled: "CANCELLED", api.EvReplaced: "REPLACED", api.EvTriggered: "TRIGGERED", api.EvExpired: "EXPIRED"}[x.Kind]
	switch {
	case what != "":
		r.execution(x.Owner, what, x, c.Name)
	case x.Kind == api.EvRejected && c.Kind == api.DoNew:
		r.execution(x.Owner, "REJECTED", x, "")
	case x.Kind == api.EvRejected && (c.Kind == api.DoCancel || c.Kind == api.DoReplace):
		m := api.Msg{Kind: api.CancelReject, ID: c.O.Name, OrigID: c.Name, Reason: int(x.Err), State: 5}
		if o, e := r.e.Order(c.Owner, c.Name); e == api.OK {
			m.OrderID, m.State = o.ID, 1
			if o.Done > 0 {
				m.State = 2
			}
		}
		r.send(x.Owner, m)
	case x.Kind == api.EvRejected && c.Kind == api.DoMass:
		r.send(x.Owner, api.Msg{Kind: api.MassReport, ID: c.O.Name, Symbol: c.O.Symbol, Reason: int(x.Err)})
	case x.Kind == api.EvMass:
		r.send(x.Owner, api.Msg{Kind: api.MassReport, ID: x.Name, Symbol: x.Symbol, Count: x.Count})
	}
}

// execution is Y6.
func (r *reading) execution(place int, what string, x api.Event, was string) {
	o := x.O
	m := api.Msg{Kind: api.Execution, ID: x.Name, Account: o.Account, Symbol: o.Symbol, Type: o.Type, Life: o.Life, Qty: o.Qty + o.Done, Done: o.Done}
	m.Exec = map[string]int{"ACCEPTED": 1, "REJECTED": 2, "TRADED": 3, "CANCELLED": 4, "REPLACED": 5, "TRIGGERED": 6, "EXPIRED": 7, "ASKED": 8}[what]
	m.Side = x.Side
	if what == "REJECTED" || what == "ASKED" {
		m.Side = o.Side
	}
	if what != "REJECTED" {
		m.OrderID = o.ID
	}
	if o.Price > 0 {
		m.Price = o.Price
	}
	if o.Stop > 0 {
		m.Stop = o.Stop
	}
	if o.Show > 0 {
		m.Show = o.Show
	}
	if what != "REJECTED" && what != "CANCELLED" && what != "EXPIRED" {
		m.Left = o.Qty
	}
	m.State = map[string]int{"REJECTED": 5, "CANCELLED": 4, "EXPIRED": 6, "ACCEPTED": 1}[what]
	switch {
	case m.State != 0:
	case what == "TRADED" && o.Qty == 0:
		m.State = 3
	case what == "TRADED" || o.Done > 0:
		m.State = 2
	default:
		m.State = 1
	}
	switch what {
	case "TRADED":
		m.LastPrice, m.LastQty = x.F.Price, x.F.Qty
	case "REPLACED":
		m.OrigID = was
	case "REJECTED":
		m.Reason = int(x.Err)
	}
	r.made++
	m.ExecID = r.made
	r.send(place, m)
}

func (r *reading) send(place int, m api.Msg) { r.sessions[place].Send(m, r.t) }

// wrong is Y8.
func (r *reading) wrong(l *line, frame []byte) {
	if l.kind != framer.Text || l.is != "bound" {
		return
	}
	reason, tag, m := fix.Why(frame)
	s := r.sessions[l.place]
	in := s.View().In
	if !(reason >= 0 && m.Sender == r.names[l.place] && m.Target == r.own && m.Seq >= 1 && s.View().State == api.Up) {
		return
	}
	r.heard(l.place, api.Msg{Kind: api.Heartbeat, Sender: m.Sender, Target: m.Target, Seq: m.Seq, Time: m.Time, Dup: m.Dup})
	if m.Seq == in {
		x := api.Msg{Kind: api.Refused, RefSeq: m.Seq, RefKind: m.Kind, Reason: reason, Text: fmt.Sprintf("tag %d", tag)}
		if x.RefKind == 0 {
			x.RefKind = 16
		}
		r.send(l.place, x)
	}
}

func (r *reading) hangup(conn int, now int64) api.Errno {
	if e := r.refuses(conn, now); e != api.OK {
		return e
	}
	r.ended(r.line(conn))
	return api.OK
}

func (r *reading) ended(l *line) {
	if l.is == "bound" {
		r.sessions[l.place].Drop(r.t)
	}
	l.is = "gone"
}

func (r *reading) tick(now int64) api.Errno {
	if now < 0 || now > api.MaxTime {
		return api.ErrArg
	}
	r.t = max(r.t, now)
	r.do(api.Command{Kind: api.DoTime})
	for place := 1; place < len(r.sessions); place++ {
		r.sessions[place].Tick(r.t)
	}
	for _, l := range r.lines {
		if l.is == "open" && l.since+10000 <= r.t {
			l.is = "refused"
		}
	}
	return api.OK
}

func (r *reading) out(conn int) ([]byte, bool, api.Errno) {
	l := r.line(conn)
	if l == nil {
		return nil, false, api.ErrConn
	}
	var b []byte
	ends := l.is == "refused"
	if l.is == "bound" {
		var box []api.Msg
		box, ends = r.sessions[l.place].Out()
		for _, m := range box {
			x, _ := encode(l.kind, m)
			b = append(b, x...)
		}
	}
	if ends {
		r.ended(l)
	}
	return b, ends, api.OK
}
