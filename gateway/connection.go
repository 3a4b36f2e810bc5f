package gateway

import (
	"slices"

	"outcry/api"
	"outcry/bin"
	"outcry/fix"
	"outcry/framer"
	"outcry/num"
)

// connection is one over which bytes come in pieces.
type connection struct {
	*framer.Framer
	number  int
	kind    int // of its frames
	since   int64
	firm    *firm // to which it is bound; nil: to none
	refused bool
}

// find gives the connection of a number; nil, if there is none.
func (g *Gateway) find(number int) *connection {
	for _, c := range g.connections {
		if c.number == number {
			return c
		}
	}
	return nil
}

// reach gives the connection of a number for a call that is told a time, to which time moves on.
func (g *Gateway) reach(number int, now int64) (*connection, api.Errno) {
	if !isTime(now) {
		return nil, api.ErrArg
	}
	c := g.find(number)
	if c == nil {
		return nil, api.ErrConn
	}
	g.move(now)
	return c, api.OK
}

// remove lets a connection be there no more.
func (g *Gateway) remove(gone *connection) {
	g.connections = slices.DeleteFunc(g.connections, func(c *connection) bool { return c == gone })
	if gone.firm != nil {
		gone.firm.Drop(g.latest)
	}
}

// out gives the bytes that go out, and whether the connection ends behind them.
func (c *connection) out() ([]byte, bool) {
	if c.firm == nil {
		return nil, c.refused
	}
	l, ends := c.firm.Out()
	var b []byte
	for _, m := range l {
		b = append(b, c.encode(m)...)
	}
	return b, ends
}

// encode writes a message as the connection's kind has it. At the end of all numbers a session may tell what is no message: of that nothing goes out.
func (c *connection) encode(m api.Msg) []byte {
	var b []byte
	if c.kind == framer.Text {
		b, _ = fix.Encode(m)
	} else {
		b, _ = bin.Encode(m)
	}
	return b
}

func (c *connection) decode(frame []byte) (api.Msg, error) {
	if c.kind == framer.Text {
		return fix.Decode(frame)
	}
	return bin.Decode(frame)
}

// hearFrame takes a frame that came over a connection which is not refused (Y3).
func (g *Gateway) hearFrame(c *connection, frame []byte) {
	m, err := c.decode(frame)
	switch {
	case err == nil:
		g.hear(c, m)
	case c.kind == framer.Text && c.firm != nil:
		g.hearWrong(c.firm, frame)
	}
}

// hear takes a message, the first of which must log a firm on (Y4).
func (g *Gateway) hear(c *connection, m api.Msg) {
	if c.firm == nil {
		c.firm = g.logsOn(m)
	}
	if c.firm == nil {
		c.refused = true
		return
	}
	g.hand(c.firm, m)
}

// logsOn gives the firm whose session a message connects; nil, if it does not.
func (g *Gateway) logsOn(m api.Msg) *firm {
	f := g.firmOf(m.Sender)
	if m.Kind != api.Logon || m.Target != g.own || f == nil {
		return nil
	}
	// A session that is connected, over another connection, refuses that, and stays as it is.
	if f.Connect(g.latest) != api.OK {
		return nil
	}
	return f
}

// hand hands a message to the firm's session, and does what is to be done by then.
func (g *Gateway) hand(f *firm, m api.Msg) {
	for _, x := range f.Hear(m, g.latest) {
		g.do(f, x)
	}
}

// hearWrong passes over the number of a message that can't be read, so that the session goes on behind it, and tells the firm why (Y8).
func (g *Gateway) hearWrong(f *firm, frame []byte) {
	reason, tag, m := fix.Why(frame)
	view := f.View()
	if reason < 0 || m.Sender != f.name || m.Target != g.own || m.Seq < 1 || view.State != api.Up {
		return
	}
	g.hand(f, api.Msg{Kind: api.Heartbeat, Sender: m.Sender, Target: m.Target, Seq: m.Seq, Time: m.Time, Dup: m.Dup})
	if m.Seq != view.In {
		return
	}
	if m.Kind == 0 {
		m.Kind = api.Refused // a message that names another one must name a kind
	}
	g.send(f, api.Msg{Kind: api.Refused, RefSeq: m.Seq, RefKind: m.Kind, Reason: reason, Text: "tag " + num.Print(int64(tag))})
}
