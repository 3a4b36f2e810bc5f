package gateway

import (
	"bytes"
	"fmt"
	"math"
	"slices"
	"testing"

	"outcry/api"
	"outcry/framer"
)

func TestY9Hangup(t *testing.T) {
	eachKind(t, func(t *testing.T, kind int) {
		w := start(t)
		a := w.end("F1", kind).logsOn()
		a.says(api.Msg{Kind: api.TestRequest, TestID: "x"}, limit("o", "A1", api.Buy, 1, 100))
		w.bytes(a.conn, frame(t, kind, a.signed(limit("half", "A1", api.Buy, 1, 100)))[:30])
		expect(t, "Hangup", w.g.Hangup(a.conn, w.now), api.OK)
		w.gone(a.conn)
		if v := w.view(1); v != (api.LinkView{State: api.Down, In: 4, Out: 4}) {
			t.Errorf("the session is %+v", v)
		}
		a.heard += 2 // a Heartbeat and an Execution are lost
		a.logsOn()
		unbound := w.connect(kind)
		expect(t, "Hangup", w.g.Hangup(unbound, w.now), api.OK)
		w.gone(unbound)
		bad := w.end("F2", kind)
		bad.conn = w.connect(kind)
		bad.says(api.Msg{Kind: api.Heartbeat})
		expect(t, "Hangup", w.g.Hangup(bad.conn, w.now), api.OK)
		w.gone(bad.conn)
		a.says(api.Msg{Kind: api.TestRequest, TestID: "y"})
		a.hears(api.Msg{Kind: api.Heartbeat, TestID: "y"})
	})
}

func TestY10Command(t *testing.T) {
	w := emptyWorld(t, nine)
	for _, now := range []int64{-1, tooLate, math.MinInt64, math.MaxInt64} {
		expect(t, "Tick at no time", w.g.Tick(now), api.ErrArg)
	}
	w.commands()
	w.tick(nine)
	w.commands(api.Command{Kind: api.DoTime})
	if l := w.g.Events(); len(l) != 5 || l[0].Kind != api.EvPhase {
		t.Errorf("events of the morning: %+v", l)
	}
	expect(t, "Tick", w.g.Tick(nine-hour), api.OK)
	w.commands(api.Command{Kind: api.DoTime})
	if w.e.Now() != nine {
		t.Errorf("the engine is at %d", w.e.Now())
	}
	w.tick(api.MaxTime)
	w.commands(api.Command{Kind: api.DoTime})
}

// TestY10Sessions: sessions beat, test and end by ticks, by their firms' places; what the tick has told goes ahead.
func TestY10Sessions(t *testing.T) {
	w := start(t)
	b, a := w.end("F2", framer.Text).logsOn(), w.end("F1", framer.Binary).logsOn()
	w.tick(nine + 30*second - 1)
	a.hears()
	w.tick(nine + 30*second)
	a.hears(api.Msg{Kind: api.Heartbeat})
	b.hears(api.Msg{Kind: api.Heartbeat})
	a.says(api.Msg{Kind: api.Heartbeat})
	w.tick(nine + 36*second)
	a.hears()
	b.hears(api.Msg{Kind: api.TestRequest, TestID: fmt.Sprint(w.now)})
	w.tick(nine + 66*second)
	a.hears(api.Msg{Kind: api.TestRequest, TestID: fmt.Sprint(w.now)})
	b.hearsLast(api.Msg{Kind: api.Logout, Text: "silent"})
	a.says(api.Msg{Kind: api.Heartbeat, TestID: fmt.Sprint(w.now)})
	o := limit("o", "A1", api.Buy, 1, 100)
	a.says(o)
	a.hears(happened(o, 1, 1, 1, 1, 1, 0))
	b.logsOn()
	w.now = wednesday + 17*hour
	w.tick(w.now)
	phases := []api.Msg{{Kind: api.Status, Symbol: "ABC", Phase: api.Closing}, {Kind: api.Status, Symbol: "ABC", Phase: api.Closed}, {Kind: api.Status, Symbol: "XY", Phase: api.Closed}}
	test := api.Msg{Kind: api.TestRequest, TestID: fmt.Sprint(w.now)}
	a.hears(phases[0], phases[1], happened(o, 7, 6, 2, 1, 0, 0), phases[2], test)
	b.hears(append(phases, test)...)
}

// TestY10Asks: a session asks once more for what is missing, and does not come.
func TestY10Asks(t *testing.T) {
	w := start(t)
	a := w.end("F1", framer.Text).logsOn()
	a.says(api.Msg{Kind: api.Heartbeat, Seq: 9})
	a.hears(api.Msg{Kind: api.ResendRequest, Begin: 2, End: 8})
	w.tick(nine + 30*second)
	a.hears(api.Msg{Kind: api.ResendRequest, Begin: 2, End: 8})
}

// TestY10Patience: a connection over which nobody logs on for ten seconds is refused, whatever else came over it.
func TestY10Patience(t *testing.T) {
	eachKind(t, func(t *testing.T, kind int) {
		w := start(t)
		first := w.connect(kind)
		a := w.end("F1", kind).logsOn()
		w.now += 4 * second
		second := w.connect(kind)
		w.tick(nine + patience - 1)
		w.bytes(first, []byte("8=FIX.4.4\x019=OC"))
		w.over(first, "", false)
		w.tick(nine + patience)
		w.refused(first)
		w.over(second, "", false)
		b := w.end("F2", kind)
		b.conn = second
		w.tick(nine + patience + 4000 - 1)
		b.says(logon())
		b.hears(logon())
		w.tick(nine + patience + 4000)
		b.hears()
		a.hears()
		third := w.connect(kind)
		w.now += patience
		w.bytes(third, nil) // it is a tick that refuses
		w.over(third, "", false)
		w.tick(w.now)
		// A Logon that comes too late is let be.
		c := w.end("F3", kind)
		c.conn = third
		c.says(logon())
		w.refused(third)
	})
}

// TestY10Since: a connection is there since T, not since the now that it was told.
func TestY10Since(t *testing.T) {
	w := start(t)
	n, e := w.g.Connect(framer.Text, nine-hour)
	expect(t, "Connect", e, api.OK)
	w.tick(nine + patience - 1)
	w.over(n, "", false)
	w.tick(nine + patience)
	w.refused(n)
}

func TestY11Out(t *testing.T) {
	eachKind(t, func(t *testing.T, kind int) {
		w := start(t)
		for _, conn := range []int{0, 1, -1, math.MaxInt, math.MinInt} {
			if b, ends, e := w.g.Out(conn); b != nil || ends || e != api.ErrConn {
				t.Errorf("Out(%d): %q, %v, %d", conn, b, ends, e)
			}
		}
		a := w.end("F1", kind)
		a.conn = w.connect(kind)
		w.over(a.conn, "", false)
		w.over(a.conn, "", false)
		a.says(logon(), api.Msg{Kind: api.TestRequest, TestID: "x"})
		want := slices.Concat(
			frame(t, kind, api.Msg{Kind: api.Logon, Sender: "EX", Target: "F1", Seq: 1, Time: nine, Beat: 30}),
			frame(t, kind, api.Msg{Kind: api.Heartbeat, Sender: "EX", Target: "F1", Seq: 2, Time: nine, TestID: "x"}),
		)
		w.over(a.conn, string(want), false)
		w.over(a.conn, "", false)
		a.heard = 2
		a.says(limit("o", "A1", api.Buy, 1, 100), api.Msg{Kind: api.Logout}, limit("p", "A1", api.Buy, 1, 100))
		a.hearsLast(happened(limit("o", "A1", api.Buy, 1, 100), 1, 1, 1, 1, 1, 0), api.Msg{Kind: api.Logout})
		if v := w.view(1); v != (api.LinkView{State: api.Down, In: 5, Out: 5}) {
			t.Errorf("the session is %+v", v)
		}
		a.said--
		a.logsOn()
	})
}

// TestY11Memory: the bytes that go out are the caller's, and so is their spare room (P3).
func TestY11Memory(t *testing.T) {
	w := start(t)
	a := w.end("F1", framer.Binary).logsOn()
	var all [][]byte
	for n := range 4 {
		a.says(limit(fmt.Sprint("o", n), "A1", api.Buy, 1, 100))
		b, _, _ := w.g.Out(a.conn)
		all = append(all, b)
	}
	var copies [][]byte
	for _, b := range all {
		copies = append(copies, bytes.Clone(b))
	}
	for n, b := range all {
		clear(b[:cap(b)])
		for k := n + 1; k < len(all); k++ {
			if !bytes.Equal(all[k], copies[k]) {
				t.Errorf("%d and %d share memory", n, k)
			}
		}
	}
	a.says(api.Msg{Kind: api.ResendRequest, Begin: 2, End: 5})
	l, _ := a.messages()
	if len(l) != 4 || l[0].ID != "o0" || l[3].ID != "o3" {
		t.Errorf("what is sent again: %+v", l)
	}
}

func TestY12Told(t *testing.T) {
	w := start(t)
	a, b := w.end("F1", framer.Text).logsOn(), w.end("F2", framer.Text).logsOn()
	o, p, q := limit("o", "A1", api.Buy, 3, 100), limit("p", "B1", api.Sell, 2, 100), limit("q", "A1", api.Buy, 2, 0)
	q.Type, q.Life = api.Market, api.IOC
	a.says(o)
	b.says(p)
	w.tick(w.now)
	a.says(q)
	commands := []api.Command{owner1(api.DoNew, "", orderOf(o)), {Kind: api.DoNew, Owner: 2, O: orderOf(p)}, {Kind: api.DoTime}, owner1(api.DoNew, "", orderOf(q))}
	other := newEngine(t)
	other.Do(api.Command{Kind: api.DoTime, Time: nine})
	var want []api.Event
	for _, c := range commands {
		c.Time = nine
		want = append(want, other.Do(c)...)
	}
	w.commands(commands...)
	w.commands()
	got := w.g.Events()
	if !slices.Equal(got, want) {
		t.Errorf("events\n%+v, want\n%+v", got, want)
	}
	if l := w.g.Events(); len(l) > 0 {
		t.Errorf("events once more: %+v", l)
	}
}

// TestY12Memory: lists of commands and events are the caller's (P3).
func TestY12Memory(t *testing.T) {
	w := start(t)
	a := w.end("F1", framer.Text).logsOn()
	var commands [][]api.Command
	var events [][]api.Event
	for n := range 3 {
		a.says(limit(fmt.Sprint("o", n), "A1", api.Buy, 1, 100))
		commands, events = append(commands, w.g.Commands()), append(events, w.g.Events())
		for k := range n {
			clear(commands[k][:cap(commands[k])])
			clear(events[k][:cap(events[k])])
		}
		if c, e := commands[n], events[n]; len(c) != 1 || c[0].O.Name != fmt.Sprint("o", n) || len(e) != 2 || e[0].Name != c[0].O.Name {
			t.Errorf("%d: %+v, %+v", n, c, e)
		}
	}
}
