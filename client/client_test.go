package client

import (
	"bytes"
	"math"
	"slices"
	"strings"
	"testing"

	"outcry/api"
	"outcry/framer"
)

func TestChapterExamples(t *testing.T) {
	eachKind(t, func(t *testing.T, kind int) {
		d := start(t, kind)
		d.sends("a1")
		d.knows(api.View{Name: "a1", Left: 100})
		d.says(happened("a1", 1, 1, 100, 0))
		d.knows(api.View{Name: "a1", OrderID: 7, State: 1, Left: 100})
		d.says(trade("a1", 2, 60, 40, 40, 15000))
		d.knows(api.View{Name: "a1", OrderID: 7, State: 2, Left: 60, Done: 40, Value: 600000})
		expect(t, "Replace", d.Replace("a1", "a2", 16000, 90, d.now), api.OK)
		d.says(with(renamed("a1", "a2", 50, 40), func(m *api.Msg) { m.State = 2 }))
		d.knows(api.View{Name: "a2", OrderID: 7, State: 2, Left: 50, Done: 40, Value: 600000})
		expect(t, "Order of a1", d.Order(newOrder("a1"), d.now), api.ErrKnown)
		expect(t, "Order of a2", d.Order(newOrder("a2"), d.now), api.ErrKnown)
		expect(t, "Cancel of b", d.Cancel("b", "c", d.now), api.ErrNone)
	})
}

func TestC1New(t *testing.T) {
	for _, kind := range []int{framer.Text, framer.Binary} {
		for _, l := range []api.Link{
			aLink(),
			{Own: "A", Peer: "B", Beat: 1, Calls: true, Keep: 1},
			{Own: "0123456789AB", Peer: "Z", Beat: 3600, Calls: true, Keep: 200, Slack: api.MaxTime},
		} {
			c, e := New(l, kind)
			if c == nil || e != api.OK {
				t.Errorf("New(%+v, %d): %v, %d", l, kind, c, e)
				continue
			}
			if len(c.Orders()) > 0 || len(c.Reports()) > 0 || len(c.Skipped()) > 0 || c.View() != (api.LinkView{In: 1, Out: 1}) {
				t.Errorf("New(%+v, %d): %s", l, kind, all(c))
			}
			if b, ends := c.Out(); len(b) > 0 || ends {
				t.Errorf("New(%+v, %d): %q goes out, %v", l, kind, b, ends)
			}
			expect(t, "Bytes", c.Bytes(nil, 0), api.ErrState)
			expect(t, "Drop", c.Drop(0), api.ErrState)
		}
	}
}

func TestC1NoClient(t *testing.T) {
	change := func(f func(*api.Link)) api.Link {
		l := aLink()
		f(&l)
		return l
	}
	for _, kind := range []int{0, 3, -1, math.MaxInt, math.MinInt} {
		if c, e := New(aLink(), kind); c != nil || e != api.ErrArg {
			t.Errorf("New of the kind %d: %v, %d", kind, c, e)
		}
	}
	for _, kind := range []int{framer.Text, framer.Binary} {
		for n, l := range []api.Link{
			{},
			change(func(l *api.Link) { l.Calls = false }),
			change(func(l *api.Link) { l.Own = "" }),
			change(func(l *api.Link) { l.Own = "firm" }),
			change(func(l *api.Link) { l.Own = "0123456789ABC" }),
			change(func(l *api.Link) { l.Peer = "E X" }),
			change(func(l *api.Link) { l.Peer = l.Own }),
			change(func(l *api.Link) { l.Beat = 0 }),
			change(func(l *api.Link) { l.Beat = 3601 }),
			change(func(l *api.Link) { l.Keep = 0 }),
			change(func(l *api.Link) { l.Keep = 201 }),
			change(func(l *api.Link) { l.Slack = -1 }),
			change(func(l *api.Link) { l.Slack = tooLate }),
		} {
			if c, e := New(l, kind); c != nil || e != api.ErrArg {
				t.Errorf("New %d (%+v): %v, %d", n, l, c, e)
			}
		}
	}
}

// wrongTimes are none.
func wrongTimes() []int64 { return []int64{-1, tooLate, math.MinInt64, math.MaxInt64} }

func TestC2ConnectDrop(t *testing.T) {
	eachKind(t, func(t *testing.T, kind int) {
		d := newDesk(t, kind)
		expect(t, "Drop of none", d.Drop(d.now), api.ErrState)
		for _, now := range wrongTimes() {
			expect(t, "Connect at no time", d.Connect(now), api.ErrArg)
			expect(t, "Drop at no time", d.Drop(now), api.ErrArg)
		}
		d.goesOut()
		expect(t, "Connect", d.Connect(d.now), api.OK)
		if v := d.View(); v != (api.LinkView{State: api.Asking, In: 1, Out: 2}) {
			t.Errorf("View: %+v", v)
		}
		expect(t, "Connect again", d.Connect(d.now), api.ErrState)
		for _, now := range wrongTimes() {
			expect(t, "Connect again, at no time", d.Connect(now), api.ErrArg)
			expect(t, "Drop at no time", d.Drop(now), api.ErrArg)
		}
		d.goesOut(logon())
		expect(t, "Drop", d.Drop(d.now), api.OK)
		expect(t, "Drop again", d.Drop(d.now), api.ErrState)
		if v := d.View(); v != (api.LinkView{In: 1, Out: 2}) {
			t.Errorf("View: %+v", v)
		}
		expect(t, "Connect at the beginning of time", d.Connect(0), api.OK)
		d.goesOut(logon()) // time does not go back
		d.now = api.MaxTime
		expect(t, "Drop at the end of time", d.Drop(d.now), api.OK)
		expect(t, "Connect at the end of time", d.Connect(d.now), api.OK)
		d.goesOut(logon())
	})
}

// TestC2NewFramer: what stood half when a connection broke is nothing to the next one, whose first bytes are a frame's.
func TestC2NewFramer(t *testing.T) {
	eachKind(t, func(t *testing.T, kind int) {
		d := start(t, kind)
		half := d.signed(happened("x", 1, 1, 100, 0))
		b := frame(t, kind, half)
		d.bytes(b[:len(b)-1])
		d.drops()
		d.said-- // it never came
		d.logsOn()
		d.bytes(b[len(b)-1:])
		d.reported()
		x := d.says(happened("y", 1, 1, 100, 0))
		d.reported(x...)
	})
}

// TestC2SameFramer: a call that is refused leaves the framer as it is.
func TestC2SameFramer(t *testing.T) {
	eachKind(t, func(t *testing.T, kind int) {
		d := start(t, kind)
		x := d.signed(happened("x", 1, 1, 100, 0))
		b := frame(t, kind, x)
		d.bytes(b[:20])
		expect(t, "Connect again", d.Connect(d.now), api.ErrState)
		expect(t, "Connect at no time", d.Connect(-1), api.ErrArg)
		expect(t, "Drop at no time", d.Drop(-1), api.ErrArg)
		d.bytes(b[20:])
		d.reported(x)
	})
}

func TestC5WhenNot(t *testing.T) {
	eachKind(t, func(t *testing.T, kind int) {
		d := newDesk(t, kind)
		b := frame(t, kind, d.signed(logon()))
		expect(t, "Bytes without a connection", d.Bytes(b, d.now), api.ErrState)
		for _, now := range wrongTimes() {
			expect(t, "Bytes without a connection, at no time", d.Bytes(b, now), api.ErrArg)
		}
		expect(t, "Connect", d.Connect(d.now), api.OK)
		for _, now := range wrongTimes() {
			expect(t, "Bytes at no time", d.Bytes(b, now), api.ErrArg)
		}
		if v := d.View(); v.State != api.Asking || v.In != 1 {
			t.Errorf("bytes that were refused are heard: %+v", v)
		}
		d.bytes(b)
		if v := d.View(); v.State != api.Up || v.In != 2 {
			t.Errorf("bytes are not heard: %+v", v)
		}
		expect(t, "Drop", d.Drop(d.now), api.OK)
		expect(t, "Bytes without a connection any more", d.Bytes(b, d.now), api.ErrState)
		expect(t, "the same at no time", d.Bytes(b, -1), api.ErrArg)
	})
}

// TestC5EndsOfTime: both ends of time are times.
func TestC5EndsOfTime(t *testing.T) {
	eachKind(t, func(t *testing.T, kind int) {
		d := newDesk(t, kind)
		d.now = 0
		d.logsOn()
		d.reported()
		x := d.says(happened("x", 1, 1, 100, 0))
		d.now = api.MaxTime
		x = append(x, d.says(happened("y", 1, 1, 100, 0))...)
		d.reported(x...)
	})
}

// TestC5Time: a message is heard at the time that the call is told.
func TestC5Time(t *testing.T) {
	eachKind(t, func(t *testing.T, kind int) {
		d := start(t, kind)
		d.now += 7 * second
		d.says(api.Msg{Kind: api.TestRequest, TestID: "t"})
		d.goesOut(api.Msg{Kind: api.Heartbeat, TestID: "t"})
		d.now += second
		d.bytes([]byte("no frame"))
		d.now -= second // bytes that are no message let no time go by
		d.says(api.Msg{Kind: api.TestRequest, TestID: "u"})
		d.goesOut(api.Msg{Kind: api.Heartbeat, TestID: "u"})
	})
}

// TestC5AllKinds: what the session takes for itself is no report; all else is one, as it came.
func TestC5AllKinds(t *testing.T) {
	eachKind(t, func(t *testing.T, kind int) {
		for _, m := range kinds() {
			d := start(t, kind)
			x := d.says(m)
			if m.Kind < api.NewOrder {
				x = nil
			}
			d.reported(x...)
			d.reported()
			d.knows()
		}
	})
}

// TestC5Order: what came ahead of its turn is heard in its turn, each once.
func TestC5Order(t *testing.T) {
	eachKind(t, func(t *testing.T, kind int) {
		d := start(t, kind)
		d.sends("o")
		d.out++
		d.Out()
		first := d.signed(happened("o", 1, 1, 100, 0))
		second := d.says(trade("o", 2, 60, 40, 40, 15000))
		d.reported()
		d.knows(fresh("o"))
		d.goesOut(api.Msg{Kind: api.ResendRequest, Begin: 2, End: 2})
		again := with(first, func(m *api.Msg) { m.Dup, m.OrigTime = true, m.Time })
		d.says(again)
		d.knows(api.View{Name: "o", OrderID: 7, State: 2, Left: 60, Done: 40, Value: 600000})
		d.says(again, with(second[0], func(m *api.Msg) { m.Dup, m.OrigTime = true, m.Time }))
		d.reported(again, second[0])
		d.knows(api.View{Name: "o", OrderID: 7, State: 2, Left: 60, Done: 40, Value: 600000})
	})
}

// TestC5LetBe: frames that are refused, bytes that are none, and messages of others are let be; what stands behind them is heard.
func TestC5LetBe(t *testing.T) {
	eachKind(t, func(t *testing.T, kind int) {
		d := start(t, kind)
		wrong := refused(t, kind, with(happened("w", 1, 1, 100, 0), func(m *api.Msg) { m.Sender, m.Target, m.Seq = "EX", "FIRM", 2 }))
		foreign := frame(t, kind, with(happened("f", 1, 1, 100, 0), func(m *api.Msg) { m.Sender, m.Target, m.Seq = "OTHER", "FIRM", 2 }))
		to := frame(t, kind, with(happened("f", 1, 1, 100, 0), func(m *api.Msg) { m.Sender, m.Target, m.Seq = "EX", "OTHER", 2 }))
		right := d.signed(happened("r", 1, 1, 100, 0))
		d.bytes(slices.Concat([]byte("junk"), wrong, foreign, []byte("8=FIOC"), to, frame(t, kind, right), wrong))
		d.reported(right)
		d.goesOut()
		if in := d.View().In; in != 3 {
			t.Errorf("in is %d", in)
		}
	})
}

// TestC5OtherKind: frames of the other protocol are none.
func TestC5OtherKind(t *testing.T) {
	eachKind(t, func(t *testing.T, kind int) {
		d := start(t, kind)
		d.bytes(frame(t, 3-kind, with(happened("x", 1, 1, 100, 0), func(m *api.Msg) { m.Sender, m.Target, m.Seq = "EX", "FIRM", 2 })))
		d.reported()
		d.bytes(make([]byte, 2*api.MaxFrame)) // whatever was begun is none by then
		d.reported(d.says(happened("y", 1, 1, 100, 0))...)
	})
}

// TestC6Tick: beats, tests, and the end of a connection that is silent.
func TestC6Tick(t *testing.T) {
	eachKind(t, func(t *testing.T, kind int) {
		d := start(t, kind)
		for _, now := range wrongTimes() {
			expect(t, "Tick at no time", d.Tick(now), api.ErrArg)
		}
		tick := func(span int64) {
			t.Helper()
			d.now += span
			expect(t, "Tick", d.Tick(d.now), api.OK)
		}
		tick(30*second - 1)
		d.goesOut()
		tick(1)
		d.goesOut(api.Msg{Kind: api.Heartbeat})
		tick(6 * second)
		d.goesOut(api.Msg{Kind: api.TestRequest, TestID: "1704272436000"})
		if !d.View().Test {
			t.Errorf("no test is open")
		}
		tick(30 * second)
		l, ends := messages(t, d.Client, kind)
		if len(l) != 1 || l[0].Kind != api.Logout || l[0].Text != "silent" || l[0].Seq != 4 || !ends {
			t.Errorf("%+v goes out, %v", l, ends)
		}
		if b, ends := d.Out(); len(b) > 0 || !ends {
			t.Errorf("%q goes out, %v: the connection ends until it is dropped", b, ends)
		}
		x := d.signed(happened("x", 1, 1, 100, 0))
		d.bytes(frame(t, kind, x)) // it is connected still, but nothing is heard
		d.reported()
		expect(t, "Drop", d.Drop(d.now), api.OK)
		if b, ends := d.Out(); len(b) > 0 || ends {
			t.Errorf("%q goes out, %v: there is no connection", b, ends)
		}
		tick(0) // without a connection, too
	})
}

// TestC6Out: messages stand one behind the other, each in the client's kind, byte by byte.
func TestC6Out(t *testing.T) {
	eachKind(t, func(t *testing.T, kind int) {
		d := start(t, kind)
		d.sends("a", "b")
		expect(t, "Cancel", d.Cancel("a", "c", d.now), api.OK)
		var want []byte
		for n, m := range []api.Msg{newOrder("a"), newOrder("b"), {Kind: api.CancelOrder, ID: "c", OrigID: "a", Symbol: "ABC", Side: api.Sell}} {
			m.Sender, m.Target, m.Seq, m.Time = "FIRM", "EX", n+2, d.now
			want = append(want, frame(t, kind, m)...)
		}
		if b, ends := d.Out(); !bytes.Equal(b, want) || ends {
			t.Errorf("Out: %q, %v, want %q", b, ends, want)
		}
		if b, ends := d.Out(); len(b) > 0 || ends {
			t.Errorf("Out once more: %q, %v", b, ends)
		}
	})
}

func TestC7Skipped(t *testing.T) {
	eachKind(t, func(t *testing.T, kind int) {
		d := start(t, kind)
		if l := d.Skipped(); len(l) > 0 {
			t.Errorf("Skipped: %v", l)
		}
		d.says(api.Msg{Kind: api.SequenceReset, Fill: true, Next: 5, Text: "lost", Seq: 2}, api.Msg{Kind: api.SequenceReset, Fill: true, Next: 7, Seq: 5}, api.Msg{Kind: api.SequenceReset, Fill: true, Next: 8, Text: "lost", Seq: 7})
		for range 2 {
			l := d.Skipped()
			if !slices.Equal(l, [][2]int{{2, 4}, {7, 7}}) {
				t.Errorf("Skipped: %v", l)
			}
			l[0] = [2]int{} // the caller's
		}
		d.reported()
		if in := d.View().In; in != 8 {
			t.Errorf("in is %d", in)
		}
	})
}

// TestC7Sorted: views stand by names, byte by byte, a beginning ahead of what goes on from it; also by those that orders got later.
func TestC7Sorted(t *testing.T) {
	d := start(t, framer.Binary)
	d.knows()
	d.sends("b", "a1", "Z", "a", "_", "10", "aB", ".", "9", "-", "a10", "a1.", "A")
	var got []string
	for _, v := range d.Orders() {
		got = append(got, v.Name)
	}
	want := []string{"-", ".", "10", "9", "A", "Z", "_", "a", "a1", "a1.", "a10", "aB", "b"}
	if !slices.Equal(got, want) {
		t.Errorf("Orders: %q, want %q", got, want)
	}
	d.says(renamed("a", "zz", 100, 0), renamed("b", "0", 100, 0))
	got = nil
	for _, v := range d.Orders() {
		got = append(got, v.Name)
	}
	want = []string{"-", ".", "0", "10", "9", "A", "Z", "_", "a1", "a1.", "a10", "aB", "zz"}
	if !slices.Equal(got, want) {
		t.Errorf("Orders: %q, want %q", got, want)
	}
}

// TestP3: what is handed in is neither written into nor kept; what comes out is the caller's, also its spare room.
func TestP3(t *testing.T) {
	eachKind(t, func(t *testing.T, kind int) {
		d := start(t, kind)
		d.sends("a", "b")
		x := []api.Msg{d.signed(happened("a", 1, 1, 100, 0)), d.signed(happened("b", 1, 1, 90, 10))}
		b := slices.Concat(frame(t, kind, x[0]), frame(t, kind, x[1]))
		for part := range slices.Chunk(b, 37) {
			piece := append(slices.Clone(part), "spare"...)
			d.bytes(piece[:len(part)])
			if !bytes.Equal(piece[:len(part)], part) || string(piece[len(part):]) != "spare" {
				t.Errorf("Bytes writes into what is handed in")
			}
			scribble(piece)
		}
		l := d.Orders()
		r := d.Reports()
		if !slices.Equal(r, x) {
			t.Errorf("Reports: %+v, want %+v", r, x)
		}
		views, heard := l[:cap(l)], r[:cap(r)]
		for n := range views {
			views[n] = api.View{Name: "the caller's"}
		}
		for n := range heard {
			heard[n] = api.Msg{ID: "the caller's"}
		}
		d.knows(api.View{Name: "a", OrderID: 7, State: 1, Left: 100}, api.View{Name: "b", OrderID: 7, State: 1, Left: 90, Done: 10})
		d.reported(d.says(happened("b", 4, 4, 0, 10))...)
		out, _ := d.Out()
		scribble(out[:cap(out)])
		d.out = 3
		d.says(api.Msg{Kind: api.ResendRequest, Begin: 2})
		again := func(m *api.Msg) { m.Dup, m.OrigTime = true, d.now }
		d.goesOut(with(newOrder("a"), again), with(newOrder("b"), again))
		if slices.ContainsFunc(views, func(v api.View) bool { return v.Name != "the caller's" }) || slices.ContainsFunc(heard, func(m api.Msg) bool { return m.ID != "the caller's" }) || !strings.HasPrefix(string(out), "xxx") {
			t.Errorf("what was handed out is written into: %+v, %+v, %q", views, heard, out)
		}
	})
}

func scribble(b []byte) {
	for n := range b {
		b[n] = 'x'
	}
}

// TestP4: clients have nothing to do with one another.
func TestP4(t *testing.T) {
	one, two := start(t, framer.Text), start(t, framer.Binary)
	one.sends("a")
	two.sends("a", "b")
	two.says(happened("a", 1, 1, 50, 0))
	one.reported()
	one.knows(fresh("a"))
	two.knows(api.View{Name: "a", OrderID: 7, State: 1, Left: 50}, fresh("b"))
	one.sends("b")
	one.goesOut(newOrder("a"), newOrder("b"))
}
