package session

import (
	"math"
	"slices"
	"strings"
	"testing"

	"outcry/api"
	"outcry/store"
)

const tooLate = api.MaxTime + 1

func newSession(t *testing.T, l api.Link) *Session {
	t.Helper()
	s, e := New(l)
	if e != api.OK || s == nil {
		t.Fatalf("New(%+v) = %v, %d", l, s, e)
	}
	return s
}

// exchange: a link that is called, with beats of 30 seconds.
func exchange() api.Link { return api.Link{Own: "EX", Peer: "FIRM", Beat: 30, Keep: 5} }

// firm: the other end, which calls.
func firm() api.Link { return api.Link{Own: "FIRM", Peer: "EX", Beat: 30, Calls: true, Keep: 5} }

// least gives of each kind a message with no more than it must have, as the firm sends it.
func least() []api.Msg {
	all := []api.Msg{
		{Kind: api.Heartbeat},
		{Kind: api.TestRequest, TestID: "x"},
		{Kind: api.ResendRequest, Begin: 1},
		{Kind: api.Reject, RefSeq: 1},
		{Kind: api.SequenceReset, Next: 1},
		{Kind: api.Logout},
		{Kind: api.Logon, Beat: 30},
		{Kind: api.NewOrder, ID: "o", Account: "A", Symbol: "X", Side: api.Buy, Type: api.Market, Life: api.Day, Qty: 1},
		{Kind: api.CancelOrder, ID: "p", OrigID: "o", Symbol: "X", Side: api.Buy},
		{Kind: api.ReplaceOrder, ID: "p", OrigID: "o", Symbol: "X", Side: api.Buy, Qty: 1},
		{Kind: api.MassCancel, ID: "p"},
		{Kind: api.AskStatus, ID: "p", Symbol: "X", Side: api.Buy},
		{Kind: api.Execution, ID: "o", Account: "A", Symbol: "X", Side: api.Buy, Qty: 1, ExecID: 1, Exec: 1, State: 1},
		{Kind: api.CancelReject, ID: "p", OrigID: "o", State: 1},
		{Kind: api.MassReport, ID: "p"},
		{Kind: api.Refused, RefSeq: 1, RefKind: 1},
		{Kind: api.Status, Symbol: "X"},
	}
	for i := range all {
		all[i].Sender, all[i].Target, all[i].Seq = "FIRM", "EX", 1
	}
	return all
}

// of gives a message of a kind and a number, as the firm sends it.
func of(kind, seq int) api.Msg {
	m := least()[kind-1]
	m.Seq = seq
	return m
}

func with(m api.Msg, change func(m *api.Msg)) api.Msg {
	change(&m)
	return m
}

func fill(seq, next int, text string) api.Msg {
	return with(of(api.SequenceReset, seq), func(m *api.Msg) { m.Next, m.Fill, m.Text = next, true, text })
}

func again(begin, end, seq int) api.Msg {
	return with(of(api.ResendRequest, seq), func(m *api.Msg) { m.Begin, m.End = begin, end })
}

func dup(m api.Msg) api.Msg { return with(m, func(m *api.Msg) { m.Dup = true }) }

// mine gives what the exchange is to send: of a kind, with a number, at a time.
func mine(kind, seq int, t int64, more ...func(m *api.Msg)) api.Msg {
	m := api.Msg{Kind: kind, Sender: "EX", Target: "FIRM", Seq: seq, Time: t}
	for _, f := range more {
		f(&m)
	}
	return m
}

func says(text string) func(m *api.Msg) { return func(m *api.Msg) { m.Text = text } }

func asks(begin, end int) func(m *api.Msg) { return func(m *api.Msg) { m.Begin, m.End = begin, end } }

func expectOK(t *testing.T, what string, e api.Errno) {
	t.Helper()
	if e != api.OK {
		t.Fatalf("%s: %d", what, e)
	}
}

func expectErr(t *testing.T, what string, e, want api.Errno) {
	t.Helper()
	if e != want {
		t.Errorf("%s: %d, want %d", what, e, want)
	}
}

func expectView(t *testing.T, s *Session, want api.LinkView) {
	t.Helper()
	if got := s.View(); got != want {
		t.Errorf("View() = %+v, want %+v", got, want)
	}
}

func expectOut(t *testing.T, s *Session, ends bool, want ...api.Msg) {
	t.Helper()
	got, e := s.Out()
	if !slices.Equal(got, want) || e != ends {
		t.Errorf("Out() = %+v, %v, want %+v, %v", got, e, want, ends)
	}
	if rest, e := s.Out(); len(rest) != 0 || e != ends {
		t.Errorf("Out() once more = %+v, %v", rest, e)
	}
}

func expectDone(t *testing.T, s *Session, m api.Msg, now int64, want ...api.Msg) {
	t.Helper()
	if got := s.Hear(m, now); !slices.Equal(got, want) {
		t.Errorf("Hear(%+v) = %+v, want %+v", m, got, want)
	}
}

// connected: the exchange's end, over a connection that began at a time.
func connected(t *testing.T, l api.Link, now int64) *Session {
	t.Helper()
	s := newSession(t, l)
	expectOK(t, "Connect", s.Connect(now))
	return s
}

// up: an exchange's end that is logged on, with in and out 2 and an empty box.
func up(t *testing.T, l api.Link, now int64) *Session {
	t.Helper()
	s := connected(t, l, now)
	m := with(of(api.Logon, 1), func(m *api.Msg) { m.Beat, m.Time = l.Beat, now })
	expectDone(t, s, m, now)
	expectOut(t, s, false, mine(api.Logon, 1, now, func(m *api.Msg) { m.Beat = l.Beat }))
	expectView(t, s, api.LinkView{State: api.Up, In: 2, Out: 2})
	return s
}

func TestP1Links(t *testing.T) {
	good := func(change func(l *api.Link)) {
		t.Helper()
		l := exchange()
		change(&l)
		s := newSession(t, l)
		expectView(t, s, api.LinkView{In: 1, Out: 1})
		expectOut(t, s, false)
		if got := s.Skipped(); len(got) != 0 {
			t.Errorf("Skipped() = %v", got)
		}
	}
	for _, n := range []int{1, 2, 3599, 3600} {
		good(func(l *api.Link) { l.Beat = n })
	}
	for _, n := range []int{1, 2, 199, 200} {
		good(func(l *api.Link) { l.Keep = n })
	}
	for _, n := range []int64{0, 1, api.MaxTime} {
		good(func(l *api.Link) { l.Slack = n })
	}
	for _, name := range []string{"A", "0", "ABCDEFGHIJKL", "Z9"} {
		good(func(l *api.Link) { l.Own = name })
		good(func(l *api.Link) { l.Peer = name })
	}
	good(func(l *api.Link) { l.Calls = true })
}

func TestP1WrongLinks(t *testing.T) {
	bad := func(change func(l *api.Link)) {
		t.Helper()
		l := exchange()
		change(&l)
		if s, e := New(l); s != nil || e != api.ErrArg {
			t.Errorf("New(%+v) = %v, %d", l, s, e)
		}
	}
	for _, name := range []string{"", "a", "A B", "A-", "ABCDEFGHIJKLM", "Ä", "A\x00", "A|"} {
		bad(func(l *api.Link) { l.Own = name })
		bad(func(l *api.Link) { l.Peer = name })
	}
	bad(func(l *api.Link) { l.Own = l.Peer })
	for _, n := range []int{0, -1, 3601, 1<<32 + 30, math.MinInt, math.MaxInt} {
		bad(func(l *api.Link) { l.Beat = n })
	}
	for _, n := range []int{0, -1, 201, 1<<32 + 5, math.MinInt, math.MaxInt} {
		bad(func(l *api.Link) { l.Keep = n })
	}
	for _, n := range []int64{-1, tooLate, math.MinInt64, math.MaxInt64} {
		bad(func(l *api.Link) { l.Slack = n })
	}
	bad(func(l *api.Link) { *l = api.Link{} })
}

func TestWrongTimes(t *testing.T) {
	for _, now := range []int64{-1, tooLate, math.MinInt64, math.MaxInt64} {
		s := newSession(t, exchange())
		expectErr(t, "Connect", s.Connect(now), api.ErrArg)
		expectErr(t, "Drop", s.Drop(now), api.ErrArg)
		expectErr(t, "Tick", s.Tick(now), api.ErrArg)
		expectErr(t, "Leave", s.Leave("a|b", now), api.ErrArg)
		expectErr(t, "Send", s.Send(api.Msg{}, now), api.ErrArg)
		s = up(t, exchange(), 7)
		expectErr(t, "Connect", s.Connect(now), api.ErrArg)
		expectErr(t, "Drop", s.Drop(now), api.ErrArg)
		expectErr(t, "Leave", s.Leave("", now), api.ErrArg)
		expectDone(t, s, of(api.Status, 2), now)
		expectView(t, s, api.LinkView{State: api.Up, In: 2, Out: 2})
		expectOut(t, s, false)
	}
	for _, now := range []int64{0, 1, api.MaxTime} {
		up(t, exchange(), now)
	}
}

// timeOf gives the time that the next message of the session has, whatever its state.
func timeOf(t *testing.T, s *Session, now int64) int64 {
	t.Helper()
	expectOK(t, "Send", s.Send(of(api.Status, 1), now))
	l, e := s.store.Parts(s.store.Next()-1, 0)
	expectOK(t, "Parts", e)
	return l[0].M.Time
}

func TestTimeDoesNotGoBack(t *testing.T) {
	s := newSession(t, exchange())
	for _, c := range []struct{ now, want int64 }{{5, 5}, {3, 5}, {0, 5}, {5, 5}, {6, 6}, {5, 6}} {
		if got := timeOf(t, s, c.now); got != c.want {
			t.Errorf("at %d the time is %d, want %d", c.now, got, c.want)
		}
	}
	expectOK(t, "Tick", s.Tick(10))
	if got := timeOf(t, s, 9); got != 10 {
		t.Errorf("behind Tick at 10: %d", got)
	}
	expectOK(t, "Connect", s.Connect(20))
	if got := timeOf(t, s, 9); got != 20 {
		t.Errorf("behind Connect at 20: %d", got)
	}
	s.Hear(of(api.Logon, 1), 30)
	if got := timeOf(t, s, 9); got != 30 {
		t.Errorf("behind Hear at 30: %d", got)
	}
	expectOK(t, "Leave", s.Leave("", 40))
	if got := timeOf(t, s, 9); got != 40 {
		t.Errorf("behind Leave at 40: %d", got)
	}
	expectOK(t, "Drop", s.Drop(50))
	if got := timeOf(t, s, 9); got != 50 {
		t.Errorf("behind Drop at 50: %d", got)
	}
}

func TestRefusedCallsMoveNoTime(t *testing.T) {
	s := connected(t, exchange(), 5)
	expectErr(t, "Connect", s.Connect(100), api.ErrState)
	expectErr(t, "Leave", s.Leave("", 100), api.ErrState)
	expectErr(t, "Leave", s.Leave("|", 100), api.ErrArg)
	expectErr(t, "Send", s.Send(of(api.Logon, 1), 100), api.ErrKind)
	expectErr(t, "Send", s.Send(with(of(api.Status, 1), func(m *api.Msg) { m.Qty = 1 }), 100), api.ErrExtra)
	s.Hear(with(of(api.Logon, 1), func(m *api.Msg) { m.Sender = "X" }), 100)
	s.Hear(with(of(api.Logon, 1), func(m *api.Msg) { m.Target = "X" }), 100)
	s.Hear(with(of(api.Logon, 1), func(m *api.Msg) { m.Qty = 1 }), 100)
	if got := timeOf(t, s, 0); got != 5 {
		t.Errorf("the time is %d", got)
	}
	s.Hear(of(api.Status, 1), 6) // the end
	s.Hear(of(api.Logon, 1), 100)
	if got := timeOf(t, s, 0); got != 6 {
		t.Errorf("behind what comes when the connection ends: the time is %d", got)
	}
	expectOK(t, "Drop", s.Drop(6))
	expectErr(t, "Drop", s.Drop(100), api.ErrState)
	s.Hear(of(api.Logon, 1), 100)
	if got := timeOf(t, s, 0); got != 6 {
		t.Errorf("without a connection: the time is %d", got)
	}
}

func TestP2Connect(t *testing.T) {
	s := connected(t, exchange(), 9)
	expectView(t, s, api.LinkView{State: api.Down, In: 1, Out: 1})
	expectErr(t, "Connect", s.Connect(9), api.ErrState)
	expectOut(t, s, false)
	s = connected(t, firm(), 9)
	expectView(t, s, api.LinkView{State: api.Asking, In: 1, Out: 2})
	expectErr(t, "Connect", s.Connect(9), api.ErrState)
	expectOut(t, s, false, api.Msg{Kind: api.Logon, Sender: "FIRM", Target: "EX", Seq: 1, Time: 9, Beat: 30})
}

func TestP2Drop(t *testing.T) {
	s := newSession(t, firm())
	expectErr(t, "Drop", s.Drop(0), api.ErrState)
	expectOK(t, "Connect", s.Connect(1))
	expectOK(t, "Drop", s.Drop(2))
	expectView(t, s, api.LinkView{State: api.Down, In: 1, Out: 2})
	expectOut(t, s, false)
	expectErr(t, "Drop", s.Drop(2), api.ErrState)
	expectOK(t, "Connect", s.Connect(3))
	expectOut(t, s, false, api.Msg{Kind: api.Logon, Sender: "FIRM", Target: "EX", Seq: 2, Time: 3, Beat: 30})
}

// TestP2DropForgets: of a connection nothing stays but the numbers, the store and what was skipped.
func TestP2DropForgets(t *testing.T) {
	s := up(t, exchange(), 0)
	s.Hear(fill(2, 4, "lost"), 0)
	s.Hear(of(api.Status, 7), 0)
	expectOK(t, "Send", s.Send(of(api.Status, 1), 0))
	expectOK(t, "Tick", s.Tick(36000))
	expectView(t, s, api.LinkView{State: api.Up, In: 4, Out: 6, Wants: 6, Waits: 1, Test: true})
	s.Hear(of(api.SequenceReset, 4), 36000)
	expectOK(t, "Drop", s.Drop(36000))
	expectView(t, s, api.LinkView{In: 4, Out: 7})
	expectOut(t, s, false)
	if got := s.Skipped(); !slices.Equal(got, [][2]int{{2, 3}}) {
		t.Errorf("Skipped() = %v", got)
	}
	expectOK(t, "Connect", s.Connect(40000))
	expectView(t, s, api.LinkView{In: 4, Out: 7})
	s.Hear(of(api.Logon, 4), 40000)
	s.Hear(again(1, 0, 5), 40000)
	l, ends := s.Out()
	if len(l) != 4 || ends || l[0].Kind != api.Logon || l[1].Next != 3 || l[2].Kind != api.Status || l[2].Seq != 3 || l[3].Seq != 4 || l[3].Next != 8 {
		t.Errorf("Out() = %+v, %v", l, ends)
	}
}

// TestP2EndsAnew: a new connection does not end because the one ahead did, and its times begin anew.
func TestP2EndsAnew(t *testing.T) {
	s := connected(t, exchange(), 0)
	expectOK(t, "Tick", s.Tick(30000))
	expectOut(t, s, true)
	expectOK(t, "Drop", s.Drop(30000))
	expectOut(t, s, false)
	expectOK(t, "Connect", s.Connect(40000))
	expectOK(t, "Tick", s.Tick(69999))
	expectOut(t, s, false)
	expectOK(t, "Tick", s.Tick(70000))
	expectOut(t, s, true)
	s = up(t, exchange(), 0)
	expectOK(t, "Drop", s.Drop(0))
	expectOK(t, "Connect", s.Connect(100000))
	s.Hear(of(api.Logon, 2), 100000)
	s.Out()
	expectOK(t, "Tick", s.Tick(129999))
	expectOut(t, s, false)
}

func TestP3Wrong(t *testing.T) {
	s := up(t, exchange(), 0)
	for _, m := range []api.Msg{
		{},
		with(of(api.Status, 2), func(m *api.Msg) { m.Sender = "EX" }),
		with(of(api.Status, 2), func(m *api.Msg) { m.Sender = "FIRMA" }),
		with(of(api.Status, 2), func(m *api.Msg) { m.Sender = "FIR" }),
		with(of(api.Status, 2), func(m *api.Msg) { m.Sender, m.Target = "EX", "FIRM" }),
		with(of(api.Status, 2), func(m *api.Msg) { m.Target = "FIRM" }),
		with(of(api.Status, 2), func(m *api.Msg) { m.Target = "" }),
		with(of(api.Status, 2), func(m *api.Msg) { m.Kind = 18 }),
		with(of(api.Status, 2), func(m *api.Msg) { m.Symbol = "x" }),
		with(of(api.Status, 2), func(m *api.Msg) { m.OrigTime = 1 }),
		with(of(api.Status, 2), func(m *api.Msg) { m.Time = -1 }),
		with(of(api.Status, 2), func(m *api.Msg) { m.Seq = api.MaxSeq + 1 }),
		of(api.Status, 0),
		of(api.Status, -1),
		with(of(api.Logout, 2), func(m *api.Msg) { m.Text = "|" }),
		with(of(api.TestRequest, 2), func(m *api.Msg) { m.TestID = "" }),
		with(again(2, 1, 2), func(m *api.Msg) {}),
	} {
		expectDone(t, s, m, 5)
	}
	expectView(t, s, api.LinkView{State: api.Up, In: 2, Out: 2})
	expectOut(t, s, false)
	// What is wrong was not heard: the test stays open, and the silence goes on.
	expectOK(t, "Tick", s.Tick(36000))
	expectDone(t, s, of(api.Status, 0), 40000)
	if !s.View().Test {
		t.Error("a wrong message has closed the test")
	}
	expectDone(t, s, of(api.Heartbeat, 2), 36000)
	if s.View().Test {
		t.Error("a right message has not closed the test")
	}
	expectDone(t, s, of(api.Status, 0), 50000)
	s.Out()
	expectOK(t, "Tick", s.Tick(72000))
	if !s.View().Test {
		t.Error("a wrong message counts as heard")
	}
}

func TestP3NotConnected(t *testing.T) {
	for _, l := range []api.Link{exchange(), firm()} {
		s := newSession(t, l)
		for _, m := range least() {
			m.Sender, m.Target = l.Peer, l.Own
			expectDone(t, s, m, 0)
		}
		expectView(t, s, api.LinkView{In: 1, Out: 1})
		expectOut(t, s, false)
	}
}

func TestP3BehindTheEnd(t *testing.T) {
	s := up(t, exchange(), 0)
	s.Hear(of(api.Logout, 2), 0)
	for _, m := range least() {
		m.Seq = 3
		expectDone(t, s, m, 0)
	}
	expectOut(t, s, true, mine(api.Logout, 2, 0))
	expectDone(t, s, of(api.Status, 3), 0)
	expectView(t, s, api.LinkView{State: api.Leaving, In: 3, Out: 3})
}

func TestP3Slack(t *testing.T) {
	l := exchange()
	l.Slack = 1000
	for _, c := range []struct {
		time, now int64
		ok        bool
	}{{5000, 5000, true}, {4000, 5000, true}, {6000, 5000, true}, {3999, 5000, false}, {6001, 5000, false}, {0, 5000, false}, {api.MaxTime, 5000, false}, {4000, 100, true}, {900, 100, false}} {
		s := connected(t, l, 5000)
		m := with(of(api.Logon, 1), func(m *api.Msg) { m.Time = c.time })
		expectDone(t, s, m, c.now)
		if c.ok {
			expectOut(t, s, false, mine(api.Logon, 1, 5000, func(m *api.Msg) { m.Beat = 30 }))
			continue
		}
		expectOut(t, s, true, mine(api.Logout, 1, 5000, says("time")))
		expectView(t, s, api.LinkView{State: api.Leaving, In: 1, Out: 2})
	}
	l.Slack = 0
	s := connected(t, l, api.MaxTime)
	expectDone(t, s, of(api.Logon, 1), 0)
	if s.View().State != api.Up {
		t.Error("without slack a time counts")
	}
}

func TestP3SlackLater(t *testing.T) {
	l := exchange()
	l.Slack = 10
	s := up(t, l, 36000)
	expectOK(t, "Tick", s.Tick(72000))
	m := with(of(api.Status, 2), func(m *api.Msg) { m.Time = 71989 })
	expectDone(t, s, m, 0)
	expectView(t, s, api.LinkView{State: api.Leaving, In: 2, Out: 4})
	if l, ends := s.Out(); len(l) != 2 || l[1] != mine(api.Logout, 3, 72000, says("time")) || !ends {
		t.Errorf("Out() = %+v, %v", l, ends)
	}
}

func TestP3BeforeLogon(t *testing.T) {
	for kind := api.Heartbeat; kind <= api.Status; kind++ {
		if kind == api.Logon {
			continue
		}
		for _, seq := range []int{1, 2, 9} {
			s := connected(t, exchange(), 3)
			expectDone(t, s, of(kind, seq), 3)
			expectView(t, s, api.LinkView{State: api.Down, In: 1, Out: 1})
			expectOut(t, s, true)
			s = connected(t, firm(), 3)
			s.Out()
			m := of(kind, seq)
			m.Sender, m.Target = "EX", "FIRM"
			expectDone(t, s, m, 3)
			expectView(t, s, api.LinkView{State: api.Asking, In: 1, Out: 2})
			expectOut(t, s, true)
		}
	}
}

func TestP4Logon(t *testing.T) {
	for _, c := range []struct {
		change func(m *api.Msg)
		text   string
	}{
		{func(m *api.Msg) { m.Reset = true }, "reset"},
		{func(m *api.Msg) { m.Reset, m.Beat, m.Seq = true, 1, 1 }, "reset"},
		{func(m *api.Msg) { m.Beat = 29 }, "beat"},
		{func(m *api.Msg) { m.Beat = 31 }, "beat"},
		{func(m *api.Msg) { m.Beat, m.Seq = 31, 1 }, "beat"},
		{func(m *api.Msg) { m.Seq = 2 }, "low"},
		{func(m *api.Msg) { m.Seq = 1 }, "low"},
		{func(m *api.Msg) { m.Seq, m.Dup = 2, true }, "low"},
	} {
		s := up(t, exchange(), 1)
		expectDone(t, s, of(api.Heartbeat, 2), 1)
		expectOK(t, "Drop", s.Drop(1))
		expectOK(t, "Connect", s.Connect(2))
		expectDone(t, s, with(of(api.Logon, 3), c.change), 2)
		expectOut(t, s, true, mine(api.Logout, 2, 2, says(c.text)))
		expectView(t, s, api.LinkView{State: api.Leaving, In: 3, Out: 3})
	}
}

// TestP4Caller: who called hears the other one's Logon, and sends none again.
func TestP4Caller(t *testing.T) {
	s := connected(t, firm(), 1)
	s.Out()
	m := api.Msg{Kind: api.Logon, Sender: "EX", Target: "FIRM", Seq: 1, Beat: 30}
	expectDone(t, s, m, 1)
	expectView(t, s, api.LinkView{State: api.Up, In: 2, Out: 2})
	expectOut(t, s, false)
	s = connected(t, firm(), 1)
	s.Out()
	m.Beat = 1
	expectDone(t, s, m, 1)
	expectView(t, s, api.LinkView{State: api.Leaving, In: 1, Out: 3})
	expectOut(t, s, true, api.Msg{Kind: api.Logout, Sender: "FIRM", Target: "EX", Seq: 2, Time: 1, Text: "beat"})
}

func TestP4LogonAhead(t *testing.T) {
	s := connected(t, exchange(), 1)
	expectDone(t, s, of(api.Logon, 4), 2)
	expectView(t, s, api.LinkView{State: api.Up, In: 1, Out: 3, Wants: 3, Waits: 1})
	expectOut(t, s, false, mine(api.Logon, 1, 2, func(m *api.Msg) { m.Beat = 30 }), mine(api.ResendRequest, 2, 2, asks(1, 3)))
	expectDone(t, s, dup(of(api.Status, 1)), 3, dup(of(api.Status, 1)))
	expectDone(t, s, fill(2, 4, ""), 3)
	expectView(t, s, api.LinkView{State: api.Up, In: 5, Out: 3})
}

func TestP5Reset(t *testing.T) {
	for _, seq := range []int{1, 2, 3, 100} {
		s := up(t, exchange(), 0)
		expectDone(t, s, dup(of(api.SequenceReset, seq)), 1)
		expectOut(t, s, true, mine(api.Logout, 2, 1, says("reset")))
		expectView(t, s, api.LinkView{State: api.Leaving, In: 2, Out: 3})
	}
}

func TestP5Low(t *testing.T) {
	for kind := api.Heartbeat; kind <= api.Status; kind++ {
		m := of(kind, 1)
		m.Fill = kind == api.SequenceReset
		s := up(t, exchange(), 0)
		expectDone(t, s, dup(m), 1)
		expectView(t, s, api.LinkView{State: api.Up, In: 2, Out: 2})
		expectOut(t, s, false)
		expectDone(t, s, m, 1)
		expectOut(t, s, true, mine(api.Logout, 2, 1, says("low")))
		expectView(t, s, api.LinkView{State: api.Leaving, In: 2, Out: 3})
	}
}

func TestP5Ahead(t *testing.T) {
	for kind := api.Heartbeat; kind <= api.Status; kind++ {
		m := of(kind, 9)
		if kind == api.SequenceReset {
			m = fill(9, 10, "")
		}
		if kind == api.ResendRequest {
			m = again(5, 5, 9) // of which there is nothing
		}
		s := up(t, exchange(), 0)
		expectDone(t, s, m, 1)
		expectView(t, s, api.LinkView{State: api.Up, In: 2, Out: 3, Wants: 8, Waits: 1})
		expectOut(t, s, false, mine(api.ResendRequest, 2, 1, asks(2, 8)))
		expectDone(t, s, m, 1)
		expectView(t, s, api.LinkView{State: api.Up, In: 2, Out: 3, Wants: 8, Waits: 1})
		expectOut(t, s, false)
	}
}

// TestP5OfOneNumber: of two messages that come ahead with one number, the first waits.
func TestP5OfOneNumber(t *testing.T) {
	s := up(t, exchange(), 0)
	first := with(of(api.Status, 3), func(m *api.Msg) { m.Symbol = "FIRST" })
	second := with(of(api.Status, 3), func(m *api.Msg) { m.Symbol = "SECOND" })
	expectDone(t, s, first, 0)
	expectDone(t, s, second, 0)
	expectDone(t, s, of(api.Heartbeat, 2), 0, first)
	expectView(t, s, api.LinkView{State: api.Up, In: 4, Out: 3})
}

func TestP5NoMoreThanKeepWait(t *testing.T) {
	for _, keep := range []int{1, 2, 3, 200} {
		l := exchange()
		l.Keep = keep
		s := up(t, l, 0)
		var want []api.Msg
		for n := range keep + 3 {
			m := of(api.Status, 3+n)
			expectDone(t, s, m, 0)
			if n < keep {
				want = append(want, m)
			}
			expectView(t, s, api.LinkView{State: api.Up, In: 2, Out: 3, Wants: 2, Waits: min(n+1, keep)})
		}
		expectDone(t, s, of(api.Heartbeat, 2), 0, want...)
		expectView(t, s, api.LinkView{State: api.Up, In: 3 + keep, Out: 3})
	}
}

// TestP5Order: what waits is done by the numbers, in whatever order it came.
func TestP5Order(t *testing.T) {
	s := up(t, exchange(), 0)
	for _, seq := range []int{5, 3, 6, 4} {
		expectDone(t, s, of(api.Status, seq), 0)
	}
	expectView(t, s, api.LinkView{State: api.Up, In: 2, Out: 3, Wants: 4, Waits: 4})
	expectDone(t, s, of(api.Status, 2), 0, of(api.Status, 2), of(api.Status, 3), of(api.Status, 4), of(api.Status, 5), of(api.Status, 6))
	expectView(t, s, api.LinkView{State: api.Up, In: 7, Out: 3})
}

// TestP5NextGap: behind the numbers that it asked for it asks for the next that are missing.
func TestP5NextGap(t *testing.T) {
	s := up(t, exchange(), 0)
	expectDone(t, s, of(api.Status, 4), 0)
	expectDone(t, s, of(api.Status, 8), 0)
	expectDone(t, s, of(api.Status, 6), 0)
	expectOut(t, s, false, mine(api.ResendRequest, 2, 0, asks(2, 3)))
	expectDone(t, s, of(api.Status, 2), 5, of(api.Status, 2))
	expectView(t, s, api.LinkView{State: api.Up, In: 3, Out: 3, Wants: 3, Waits: 3})
	expectDone(t, s, of(api.Status, 3), 5, of(api.Status, 3), of(api.Status, 4))
	expectView(t, s, api.LinkView{State: api.Up, In: 5, Out: 4, Wants: 5, Waits: 2})
	expectOut(t, s, false, mine(api.ResendRequest, 3, 5, asks(5, 5)))
	expectDone(t, s, of(api.Status, 5), 5, of(api.Status, 5), of(api.Status, 6))
	expectOut(t, s, false, mine(api.ResendRequest, 4, 5, asks(7, 7)))
	expectDone(t, s, of(api.Status, 7), 5, of(api.Status, 7), of(api.Status, 8))
	expectView(t, s, api.LinkView{State: api.Up, In: 9, Out: 5})
	expectOut(t, s, false)
}

// TestP5Passed: what waits and is passed over by a SequenceReset waits no more, whether its end waits or not.
func TestP5Passed(t *testing.T) {
	for _, next := range []int{6, 7} {
		s := up(t, exchange(), 0)
		for _, seq := range []int{4, 5, 7, 9} {
			s.Hear(of(api.Status, seq), 0)
		}
		s.Out()
		if next == 6 {
			expectDone(t, s, fill(2, 6, ""), 0)
			expectView(t, s, api.LinkView{State: api.Up, In: 6, Out: 4, Wants: 6, Waits: 2})
			expectOut(t, s, false, mine(api.ResendRequest, 3, 0, asks(6, 6)))
			continue
		}
		expectDone(t, s, fill(2, 7, ""), 0, of(api.Status, 7))
		expectView(t, s, api.LinkView{State: api.Up, In: 8, Out: 4, Wants: 8, Waits: 1})
		expectOut(t, s, false, mine(api.ResendRequest, 3, 0, asks(8, 8)))
	}
}

// TestP5BehindGoing: as soon as it goes, what waits stays as it is, and nothing is asked for; what was done is told.
func TestP5BehindGoing(t *testing.T) {
	for _, c := range []struct {
		m    api.Msg
		text string
	}{{fill(3, 3, ""), "fill"}, {fill(3, 1, "lost"), "fill"}, {of(api.Logout, 3), ""}, {with(of(api.Logon, 3), func(m *api.Msg) { m.Reset = true }), "reset"}} {
		s := up(t, exchange(), 0)
		for _, m := range []api.Msg{of(api.Status, 4), c.m, of(api.Status, 6)} {
			expectDone(t, s, m, 0)
		}
		expectOut(t, s, false, mine(api.ResendRequest, 2, 0, asks(2, 3)))
		expectDone(t, s, of(api.Status, 2), 1, of(api.Status, 2))
		expectView(t, s, api.LinkView{State: api.Leaving, In: 4, Out: 4, Wants: 3, Waits: 2})
		expectOut(t, s, true, mine(api.Logout, 3, 1, says(c.text)))
		if len(s.Skipped()) != 0 {
			t.Errorf("Skipped() = %v", s.Skipped())
		}
	}
}

func TestP6Kinds(t *testing.T) {
	for kind := api.NewOrder; kind <= api.Status; kind++ {
		s := up(t, exchange(), 0)
		m := with(of(kind, 2), func(m *api.Msg) { m.Dup, m.Time, m.OrigTime = true, 3, 2 })
		expectDone(t, s, m, 0, m)
		expectView(t, s, api.LinkView{State: api.Up, In: 3, Out: 2})
		expectOut(t, s, false)
	}
	for _, m := range []api.Msg{of(api.Heartbeat, 2), of(api.Reject, 2), of(api.Logon, 2), with(of(api.Logon, 2), func(m *api.Msg) { m.Beat = 1 })} {
		s := up(t, exchange(), 0)
		expectDone(t, s, m, 0)
		expectView(t, s, api.LinkView{State: api.Up, In: 3, Out: 2})
		expectOut(t, s, false)
	}
}

func TestP6Test(t *testing.T) {
	for _, id := range []string{"x", "37000", strings.Repeat("z", 20), " "} {
		s := up(t, exchange(), 0)
		expectDone(t, s, with(of(api.TestRequest, 2), func(m *api.Msg) { m.TestID = id }), 4)
		expectOut(t, s, false, mine(api.Heartbeat, 2, 4, func(m *api.Msg) { m.TestID = id }))
		expectView(t, s, api.LinkView{State: api.Up, In: 3, Out: 3})
	}
}

func TestP6Fill(t *testing.T) {
	for _, c := range []struct {
		next int
		text string
		in   int
		rows [][2]int
	}{{3, "", 3, nil}, {3, "lost", 3, [][2]int{{2, 2}}}, {9, "lost", 9, [][2]int{{2, 8}}}, {9, "Lost", 9, nil}, {9, "lost ", 9, nil}, {api.MaxSeq, "lost", api.MaxSeq, [][2]int{{2, api.MaxSeq - 1}}}} {
		s := up(t, exchange(), 0)
		expectDone(t, s, fill(2, c.next, c.text), 0)
		expectView(t, s, api.LinkView{State: api.Up, In: c.in, Out: 2})
		expectOut(t, s, false)
		if got := s.Skipped(); !slices.Equal(got, c.rows) {
			t.Errorf("Skipped() = %v, want %v", got, c.rows)
		}
	}
	for _, next := range []int{2, 1} {
		s := up(t, exchange(), 0)
		expectDone(t, s, fill(2, next, "lost"), 0)
		expectView(t, s, api.LinkView{State: api.Leaving, In: 3, Out: 3})
		expectOut(t, s, true, mine(api.Logout, 2, 0, says("fill")))
		if len(s.Skipped()) != 0 {
			t.Errorf("Skipped() = %v", s.Skipped())
		}
	}
}

func TestP6Logout(t *testing.T) {
	s := up(t, exchange(), 0)
	expectDone(t, s, with(of(api.Logout, 2), says("bye")), 4)
	expectOut(t, s, true, mine(api.Logout, 2, 4))
	expectView(t, s, api.LinkView{State: api.Leaving, In: 3, Out: 3})
	s = up(t, exchange(), 0)
	expectOK(t, "Leave", s.Leave("", 1))
	expectOut(t, s, false, mine(api.Logout, 2, 1))
	expectDone(t, s, of(api.Logout, 2), 4)
	expectOut(t, s, true)
	expectView(t, s, api.LinkView{State: api.Leaving, In: 3, Out: 3})
}

// TestLeavingGoesOn: up to the other one's Logout messages are done, and numbers are asked for.
func TestLeavingGoesOn(t *testing.T) {
	s := up(t, exchange(), 0)
	expectOK(t, "Leave", s.Leave("bye", 1))
	s.Out()
	expectDone(t, s, of(api.Status, 2), 2, of(api.Status, 2))
	expectDone(t, s, of(api.TestRequest, 3), 2)
	expectDone(t, s, of(api.Logout, 5), 2)
	expectOut(t, s, false, mine(api.Heartbeat, 3, 2, func(m *api.Msg) { m.TestID = "x" }), mine(api.ResendRequest, 4, 2, asks(4, 4)))
	expectDone(t, s, of(api.Status, 4), 2, of(api.Status, 4))
	expectOut(t, s, true)
	expectView(t, s, api.LinkView{State: api.Leaving, In: 6, Out: 5, Wants: 4})
	// and it may yet go
	s = up(t, exchange(), 0)
	expectOK(t, "Leave", s.Leave("bye", 1))
	expectDone(t, s, of(api.Status, 1), 2)
	expectOut(t, s, true, mine(api.Logout, 2, 1, says("bye")), mine(api.Logout, 3, 2, says("low")))
}

// sends makes the exchange send: w a Status, whose text is its number; h a Heartbeat.
func sends(t *testing.T, s *Session, steps string) {
	t.Helper()
	for _, step := range steps {
		if step == 'w' {
			m := with(of(api.Status, 1), says(mark(s.View().Out)))
			expectOK(t, "Send", s.Send(m, s.latest))
			continue
		}
		s.Hear(of(api.TestRequest, s.View().In), s.latest)
	}
	s.Out()
}

func mark(n int) string { return strings.Repeat("m", n) }

func TestP7Again(t *testing.T) {
	work := func(n int) api.Msg {
		return mine(api.Status, n, 9, func(m *api.Msg) { m.Symbol, m.Text, m.Dup, m.OrigTime = "X", mark(n), true, 4 })
	}
	row := func(from, to int, text string) api.Msg {
		return mine(api.SequenceReset, from, 9, func(m *api.Msg) { m.Next, m.Fill, m.Dup, m.Text = to+1, true, true, text })
	}
	lost := func(from, to int) api.Msg { return row(from, to, "lost") }
	skipped := func(from, to int) api.Msg { return row(from, to, "") }
	for _, c := range []struct {
		begin, end int
		want       []api.Msg
	}{
		{1, 0, []api.Msg{skipped(1, 1), lost(2, 3), skipped(4, 5), lost(6, 6), work(7), skipped(8, 9), work(10), skipped(11, 11)}},
		{1, 11, []api.Msg{skipped(1, 1), lost(2, 3), skipped(4, 5), lost(6, 6), work(7), skipped(8, 9), work(10), skipped(11, 11)}},
		{1, 12, []api.Msg{skipped(1, 1), lost(2, 3), skipped(4, 5), lost(6, 6), work(7), skipped(8, 9), work(10), skipped(11, 11)}},
		{9, api.MaxSeq, []api.Msg{skipped(9, 9), work(10), skipped(11, 11)}},
		{10, 10, []api.Msg{work(10)}},
		{11, 11, []api.Msg{skipped(11, 11)}},
		{11, 0, []api.Msg{skipped(11, 11)}},
		{3, 4, []api.Msg{lost(3, 3), skipped(4, 4)}},
		{2, 2, []api.Msg{lost(2, 2)}},
		{7, 8, []api.Msg{work(7), skipped(8, 8)}},
		{1, 1, []api.Msg{skipped(1, 1)}},
		{12, 0, nil},
		{12, 12, nil},
		{50, 60, nil},
		{api.MaxSeq, 0, nil},
		{api.MaxSeq, api.MaxSeq, nil},
	} {
		l := exchange()
		l.Keep = 2
		for _, ahead := range []int{0, 1} {
			s := up(t, l, 4)
			sends(t, s, "wwhhwwhhwh") // 2 to 11
			m := again(c.begin, c.end, s.View().In+ahead)
			expectDone(t, s, m, 9)
			want := c.want
			if ahead == 1 {
				want = append(slices.Clone(want), mine(api.ResendRequest, 12, 9, asks(m.Seq-1, m.Seq-1)))
			}
			expectOut(t, s, false, want...)
			if got := s.View().Out; got != 12+ahead {
				t.Errorf("out is %d behind %+v", got, m)
			}
		}
	}
}

// TestP7OrigTimeOfZero: a message of the time 0 has no time that it had.
func TestP7OrigTimeOfZero(t *testing.T) {
	s := up(t, exchange(), 0)
	sends(t, s, "w")
	expectDone(t, s, again(2, 2, 2), 5)
	expectOut(t, s, false, mine(api.Status, 2, 5, func(m *api.Msg) { m.Symbol, m.Text, m.Dup = "X", mark(2), true }))
	// and asked for once more it is again the first time that counts
	s = up(t, exchange(), 3)
	sends(t, s, "w")
	for n := range 3 {
		now := int64(10 + n)
		expectDone(t, s, again(2, 2, 2+n), now)
		expectOut(t, s, false, mine(api.Status, 2, now, func(m *api.Msg) { m.Symbol, m.Text, m.Dup, m.OrigTime = "X", mark(2), true, 3 }))
	}
}

// TestP7SentAgainIsSent: what is sent again puts the next Heartbeat off; where nothing is, nothing does.
func TestP7SentAgainIsSent(t *testing.T) {
	for _, begin := range []int{1, 2} {
		s := up(t, exchange(), 0)
		expectDone(t, s, again(begin, 0, 2), 10000)
		s.Out()
		expectOK(t, "Tick", s.Tick(30000))
		if begin == 1 {
			expectOut(t, s, false)
		} else {
			expectOut(t, s, false, mine(api.Heartbeat, 2, 30000))
		}
	}
}

// TestP6Once: a ResendRequest that waits was answered when it came, and is not once more; each that comes is.
func TestP6Once(t *testing.T) {
	s := up(t, exchange(), 0)
	sends(t, s, "w")
	one := mine(api.Status, 2, 1, func(m *api.Msg) { m.Symbol, m.Text, m.Dup = "X", mark(2), true })
	expectDone(t, s, again(2, 2, 3), 1)
	expectOut(t, s, false, one, mine(api.ResendRequest, 3, 1, asks(2, 2)))
	expectDone(t, s, again(2, 2, 3), 1)
	expectOut(t, s, false, one)
	expectDone(t, s, of(api.Heartbeat, 2), 1)
	expectView(t, s, api.LinkView{State: api.Up, In: 4, Out: 4})
	expectOut(t, s, false)
	expectDone(t, s, again(2, 2, 4), 1)
	expectOut(t, s, false, one)
}

// TestP6OnceWithoutPlace: one that found no place to wait is answered when it comes in its turn.
func TestP6OnceWithoutPlace(t *testing.T) {
	l := exchange()
	l.Keep = 1
	s := up(t, l, 0)
	sends(t, s, "w")
	one := mine(api.Status, 2, 1, func(m *api.Msg) { m.Symbol, m.Text, m.Dup = "X", mark(2), true })
	expectDone(t, s, of(api.Heartbeat, 3), 1)
	s.Out()
	expectDone(t, s, again(2, 2, 4), 1)
	expectOut(t, s, false, one)
	expectDone(t, s, of(api.Heartbeat, 2), 1)
	expectOut(t, s, false)
	expectDone(t, s, again(2, 2, 4), 1)
	expectOut(t, s, false, one)
}

func TestP10Send(t *testing.T) {
	for kind := api.NewOrder; kind <= api.Status; kind++ {
		s := up(t, exchange(), 5)
		m := with(of(kind, 77), func(m *api.Msg) { m.Sender, m.Target, m.Time, m.Dup, m.OrigTime = "a|b", "", -7, true, -1 })
		expectOK(t, "Send", s.Send(m, 3))
		want := with(of(kind, 2), func(m *api.Msg) { m.Sender, m.Target, m.Time = "EX", "FIRM", 5 })
		expectOut(t, s, false, want)
		expectView(t, s, api.LinkView{State: api.Up, In: 2, Out: 3})
	}
}

func TestP10Refused(t *testing.T) {
	s := up(t, exchange(), 5)
	for _, kind := range []int{0, 1, 2, 3, 4, 5, 6, 7, 18, 19, -1, math.MinInt, math.MaxInt, 1<<32 + 9} {
		expectErr(t, "Send", s.Send(api.Msg{Kind: kind}, 5), api.ErrKind)
	}
	expectErr(t, "Send", s.Send(of(api.Logon, 2), 5), api.ErrKind)
	expectErr(t, "Send", s.Send(api.Msg{Kind: api.Status}, 5), api.ErrField)
	expectErr(t, "Send", s.Send(with(of(api.Status, 2), func(m *api.Msg) { m.Text = "a|b" }), 5), api.ErrField)
	expectErr(t, "Send", s.Send(with(of(api.Status, 2), func(m *api.Msg) { m.Text, m.TestID = "a|b", "x" }), 5), api.ErrExtra)
	expectErr(t, "Send", s.Send(with(of(api.Status, 2), func(m *api.Msg) { m.Fill = true }), 5), api.ErrExtra)
	expectView(t, s, api.LinkView{State: api.Up, In: 2, Out: 2})
	expectOut(t, s, false)
	expectDone(t, s, again(2, 0, 2), 5)
	expectOut(t, s, false)
}

// TestP10OtherStates: what is sent in another state than Up is kept, and goes out when it is asked for.
func TestP10OtherStates(t *testing.T) {
	down := newSession(t, exchange())
	waiting := connected(t, exchange(), 0)
	leaving := up(t, exchange(), 0)
	expectOK(t, "Leave", leaving.Leave("", 0))
	leaving.Out()
	for _, s := range []*Session{down, waiting, leaving} {
		before := s.View()
		expectOK(t, "Send", s.Send(of(api.Status, 1), 6))
		before.Out++
		expectView(t, s, before)
		expectOut(t, s, false)
	}
	s := connected(t, firm(), 0)
	s.Out()
	expectOK(t, "Send", s.Send(of(api.Status, 1), 6))
	expectOut(t, s, false)
	expectDone(t, waiting, of(api.Logon, 1), 7)
	waiting.Out()
	expectDone(t, waiting, again(1, 1, 2), 7)
	expectOut(t, waiting, false, mine(api.Status, 1, 7, func(m *api.Msg) { m.Symbol, m.Dup, m.OrigTime = "X", true, 6 }))
	expectDone(t, leaving, again(3, 3, 2), 7)
	expectOut(t, leaving, false, mine(api.Status, 3, 7, func(m *api.Msg) { m.Symbol, m.Dup, m.OrigTime = "X", true, 6 }))
}

// TestP10Sent: a message that goes out puts the next Heartbeat off.
func TestP10Sent(t *testing.T) {
	s := up(t, exchange(), 0)
	expectOK(t, "Send", s.Send(of(api.Status, 1), 10))
	s.Out()
	expectOK(t, "Tick", s.Tick(30009))
	expectOut(t, s, false)
	expectOK(t, "Tick", s.Tick(30010))
	expectOut(t, s, false, mine(api.Heartbeat, 3, 30010))
}

func TestP11Leave(t *testing.T) {
	for _, text := range []string{"", "bye", strings.Repeat("~", 60), " "} {
		s := up(t, exchange(), 1)
		expectOK(t, "Leave", s.Leave(text, 5))
		expectView(t, s, api.LinkView{State: api.Leaving, In: 2, Out: 3})
		expectOut(t, s, false, mine(api.Logout, 2, 5, says(text)))
		expectErr(t, "Leave", s.Leave(text, 5), api.ErrState)
	}
	for _, text := range []string{"|", "a|b", "\x1f", "\x7f", "ä", "\x00", strings.Repeat("~", 61)} {
		s := up(t, exchange(), 1)
		expectErr(t, "Leave", s.Leave(text, 5), api.ErrArg)
		expectView(t, s, api.LinkView{State: api.Up, In: 2, Out: 2})
		expectOut(t, s, false)
		expectErr(t, "Leave", newSession(t, exchange()).Leave(text, 5), api.ErrArg)
	}
	expectErr(t, "Leave", newSession(t, exchange()).Leave("", 5), api.ErrState)
	expectErr(t, "Leave", connected(t, exchange(), 0).Leave("", 5), api.ErrState)
	expectErr(t, "Leave", connected(t, firm(), 0).Leave("", 5), api.ErrState)
	s := up(t, exchange(), 0)
	s.Hear(of(api.Logout, 2), 0)
	expectErr(t, "Leave", s.Leave("", 5), api.ErrState)
}

// TestP11Since: who has left waits a beat for the answer, from then on.
func TestP11Since(t *testing.T) {
	s := up(t, exchange(), 0)
	expectOK(t, "Leave", s.Leave("", 20000))
	s.Out()
	expectOK(t, "Tick", s.Tick(49999))
	expectOut(t, s, false)
	expectOK(t, "Tick", s.Tick(50000))
	expectOut(t, s, true)
	expectView(t, s, api.LinkView{State: api.Leaving, In: 2, Out: 3})
}

func TestP12NobodyLogsOn(t *testing.T) {
	for _, beat := range []int{1, 30, 3600} {
		for _, l := range []api.Link{exchange(), firm()} {
			l.Beat = beat
			h := int64(beat) * 1000
			s := connected(t, l, 70)
			before := s.View()
			s.Out()
			expectOK(t, "Tick", s.Tick(70+h-1))
			expectOut(t, s, false)
			expectOK(t, "Tick", s.Tick(70+h))
			expectOut(t, s, true)
			expectView(t, s, before)
		}
	}
}

func TestP12Beats(t *testing.T) {
	l := exchange()
	l.Beat = 1
	s := up(t, l, 100)
	expectOK(t, "Tick", s.Tick(1099))
	expectOut(t, s, false)
	expectOK(t, "Tick", s.Tick(1100))
	expectOut(t, s, false, mine(api.Heartbeat, 2, 1100))
	expectOK(t, "Tick", s.Tick(1299))
	expectOut(t, s, false)
	expectOK(t, "Tick", s.Tick(1300))
	expectOut(t, s, false, mine(api.TestRequest, 3, 1300, func(m *api.Msg) { m.TestID = "1300" }))
	expectView(t, s, api.LinkView{State: api.Up, In: 2, Out: 4, Test: true})
	expectOK(t, "Tick", s.Tick(2299))
	expectOut(t, s, false)
	expectOK(t, "Tick", s.Tick(2300))
	expectOut(t, s, true, mine(api.Logout, 4, 2300, says("silent")))
	expectView(t, s, api.LinkView{State: api.Leaving, In: 2, Out: 5, Test: true})
}

// TestP12Heard: whatever is heard in time ends the silence.
func TestP12Heard(t *testing.T) {
	s := up(t, exchange(), 0)
	expectDone(t, s, of(api.Heartbeat, 2), 20000)
	expectOK(t, "Tick", s.Tick(55999))
	expectOut(t, s, false, mine(api.Heartbeat, 2, 55999))
	expectOK(t, "Tick", s.Tick(56000))
	expectOut(t, s, false, mine(api.TestRequest, 3, 56000, func(m *api.Msg) { m.TestID = "56000" }))
	expectDone(t, s, dup(of(api.Heartbeat, 1)), 85999)
	expectView(t, s, api.LinkView{State: api.Up, In: 3, Out: 4})
	expectOK(t, "Tick", s.Tick(86000))
	expectOut(t, s, false, mine(api.Heartbeat, 4, 86000))
}

// TestP12All: a test, what is missing, and no Heartbeat behind these, in one Tick.
func TestP12All(t *testing.T) {
	s := up(t, exchange(), 0)
	expectDone(t, s, of(api.Status, 5), 0)
	s.Out()
	expectOK(t, "Tick", s.Tick(29999))
	expectOut(t, s, false)
	expectOK(t, "Tick", s.Tick(36000))
	expectOut(t, s, false, mine(api.TestRequest, 3, 36000, func(m *api.Msg) { m.TestID = "36000" }), mine(api.ResendRequest, 4, 36000, asks(2, 4)))
	expectView(t, s, api.LinkView{State: api.Up, In: 2, Out: 5, Wants: 4, Waits: 1, Test: true})
	expectDone(t, s, of(api.Status, 2), 40000, of(api.Status, 2))
	expectOK(t, "Tick", s.Tick(65999))
	expectOut(t, s, false)
	expectOK(t, "Tick", s.Tick(66000))
	expectOut(t, s, false, mine(api.ResendRequest, 5, 66000, asks(3, 4)))
}

// TestP12WithoutConnection: nothing but time.
func TestP12WithoutConnection(t *testing.T) {
	s := newSession(t, firm())
	expectOK(t, "Tick", s.Tick(api.MaxTime))
	expectView(t, s, api.LinkView{In: 1, Out: 1})
	expectOut(t, s, false)
	expectOK(t, "Connect", s.Connect(0))
	if l, _ := s.Out(); len(l) != 1 || l[0].Time != api.MaxTime {
		t.Errorf("Out() = %+v", l)
	}
	s = up(t, exchange(), 0)
	s.Hear(of(api.SequenceReset, 2), 0)
	s.Out()
	expectOK(t, "Tick", s.Tick(api.MaxTime))
	expectOut(t, s, true)
	expectView(t, s, api.LinkView{State: api.Leaving, In: 2, Out: 3})
	if got := timeOf(t, s, 0); got != api.MaxTime {
		t.Errorf("the time is %d", got)
	}
}

func TestP13Skipped(t *testing.T) {
	s := up(t, exchange(), 0)
	for _, c := range []struct {
		m    api.Msg
		rows [][2]int
	}{
		{fill(2, 4, "lost"), [][2]int{{2, 3}}},
		{fill(4, 5, "lost"), [][2]int{{2, 4}}},
		{fill(5, 7, ""), [][2]int{{2, 4}}},
		{fill(7, 8, "lost"), [][2]int{{2, 4}, {7, 7}}},
		{of(api.Status, 8), [][2]int{{2, 4}, {7, 7}}},
		{fill(9, 11, "lost"), [][2]int{{2, 4}, {7, 7}, {9, 10}}},
		{fill(11, 20, "lost"), [][2]int{{2, 4}, {7, 7}, {9, 19}}},
		{dup(fill(11, 30, "lost")), [][2]int{{2, 4}, {7, 7}, {9, 19}}},
	} {
		s.Hear(c.m, 0)
		if got := s.Skipped(); !slices.Equal(got, c.rows) {
			t.Errorf("behind %+v: Skipped() = %v, want %v", c.m, got, c.rows)
		}
	}
}

func TestNothingIsShared(t *testing.T) {
	s := up(t, exchange(), 0)
	s.Hear(fill(2, 4, "lost"), 0)
	a, b := s.Skipped(), s.Skipped()
	a[0] = [2]int{}
	a = append(a, [2]int{8, 8})
	if b[0] != [2]int{2, 3} || s.Skipped()[0] != [2]int{2, 3} || len(a) != 2 {
		t.Error("two lists of skipped numbers share something")
	}
	s.Hear(fill(4, 6, "lost"), 0)
	if b[0] != [2]int{2, 3} {
		t.Error("a list that was told has changed")
	}
	sends3 := func() []api.Msg {
		for range 3 {
			expectOK(t, "Send", s.Send(of(api.Status, 1), 0))
		}
		l, _ := s.Out()
		return l
	}
	first := sends3()
	saved := slices.Clone(first)
	second := sends3()
	if !slices.Equal(first, saved) {
		t.Errorf("a box that was told has changed: %+v", first)
	}
	clear(first[:cap(first)])
	for i := range second {
		if second[i].Seq != 5+i {
			t.Errorf("boxes share something: %+v", second)
		}
	}
	clear(second)
	s.Hear(again(5, 0, 6), 0)
	if l, _ := s.Out(); len(l) != 3 || l[0].Symbol != "X" {
		t.Errorf("who writes into a box writes into the store: %+v", l)
	}
	for _, seq := range []int{8, 9} {
		s.Hear(of(api.Status, seq), 0)
	}
	done := s.Hear(of(api.Status, 7), 0)
	clear(done[:cap(done)])
	s.Hear(of(api.Status, 12), 0)
	if got := s.Hear(fill(10, 12, ""), 0); len(got) != 1 || got[0] != of(api.Status, 12) {
		t.Errorf("Hear = %+v", got)
	}
}

func TestExamples(t *testing.T) {
	a, b := newSession(t, firm()), newSession(t, exchange())
	expectOK(t, "Connect", a.Connect(0))
	expectOK(t, "Connect", b.Connect(0))
	carry := func(from, to *Session, kinds ...int) []api.Msg {
		t.Helper()
		l, _ := from.Out()
		var got []int
		var done []api.Msg
		for _, m := range l {
			got = append(got, m.Kind, m.Seq)
			done = append(done, to.Hear(m, 0)...)
		}
		if !slices.Equal(got, kinds) {
			t.Errorf("what goes out: %v, want %v", got, kinds)
		}
		return done
	}
	carry(a, b, api.Logon, 1)
	carry(b, a, api.Logon, 1)
	expectView(t, a, api.LinkView{State: api.Up, In: 2, Out: 2})
	expectView(t, b, api.LinkView{State: api.Up, In: 2, Out: 2})
	expectOK(t, "Send", a.Send(of(api.NewOrder, 0), 0))
	if done := carry(a, b, api.NewOrder, 2); len(done) != 1 || done[0] != of(api.NewOrder, 2) {
		t.Errorf("done: %+v", done)
	}
	expectOK(t, "Drop", a.Drop(0))
	expectOK(t, "Drop", b.Drop(0))
	expectOK(t, "Send", a.Send(of(api.NewOrder, 0), 0))
	carry(a, b)
	expectOK(t, "Connect", a.Connect(0))
	expectOK(t, "Connect", b.Connect(0))
	carry(a, b, api.Logon, 4)
	l, _ := b.Out()
	if len(l) != 2 || l[0].Kind != api.Logon || l[0].Seq != 2 || l[1] != mine(api.ResendRequest, 3, 0, asks(3, 3)) {
		t.Errorf("what goes out: %+v", l)
	}
	for _, m := range l {
		a.Hear(m, 0)
	}
	if done := carry(a, b, api.NewOrder, 3); len(done) != 1 || done[0] != dup(of(api.NewOrder, 3)) {
		t.Errorf("done: %+v", done)
	}
	expectView(t, b, api.LinkView{State: api.Up, In: 5, Out: 4})
	b = connected(t, exchange(), 0)
	b.Hear(with(of(api.Logon, 1), func(m *api.Msg) { m.Reset = true }), 0)
	expectOut(t, b, true, mine(api.Logout, 1, 0, says("reset")))
}

// late gives a store whose next number is the last one. The copies have nothing in common, for nothing is kept.
func late(t *testing.T) func() *store.Store {
	t.Helper()
	one, e := store.New(5)
	expectOK(t, "store.New", e)
	for one.Next() < api.MaxSeq {
		one.Skip()
	}
	return func() *store.Store { s := *one; return &s }
}

// TestLastNumbers: behind MaxSeq nothing goes out; all else is as ever.
func TestLastNumbers(t *testing.T) {
	t.Parallel()
	last := late(t)
	past := func() *store.Store { s := last(); s.Skip(); return s }
	const end = api.MaxSeq + 1

	s := newSession(t, firm())
	s.store = past()
	expectOK(t, "Connect", s.Connect(0))
	expectView(t, s, api.LinkView{State: api.Asking, In: 1, Out: end})
	expectOut(t, s, false)
	expectErr(t, "Send", s.Send(of(api.Status, 1), 0), api.ErrGreat)
	expectErr(t, "Send", s.Send(api.Msg{Kind: api.Status}, 0), api.ErrGreat)
	expectErr(t, "Send", s.Send(of(api.Logon, 1), 0), api.ErrKind)
	expectErr(t, "Send", s.Send(api.Msg{Kind: 18}, 0), api.ErrKind)

	s = connected(t, exchange(), 0)
	s.store = last()
	expectDone(t, s, of(api.Logon, 4), 0)
	expectView(t, s, api.LinkView{State: api.Up, In: 1, Out: end, Wants: 3, Waits: 1})
	expectOut(t, s, false, mine(api.Logon, api.MaxSeq, 0, func(m *api.Msg) { m.Beat = 30 }))
	expectDone(t, s, of(api.TestRequest, 1), 10000)
	expectDone(t, s, again(api.MaxSeq-1, 0, 2), 20000)
	expectOut(t, s, false, mine(api.SequenceReset, api.MaxSeq-1, 20000, func(m *api.Msg) { m.Next, m.Fill, m.Dup = end, true, true }))
	expectOK(t, "Tick", s.Tick(50000))
	expectView(t, s, api.LinkView{State: api.Up, In: 3, Out: end, Wants: 3, Waits: 1})
	expectOK(t, "Tick", s.Tick(56000))
	expectView(t, s, api.LinkView{State: api.Up, In: 3, Out: end, Wants: 3, Waits: 1, Test: true})
	expectOK(t, "Tick", s.Tick(86000))
	expectOut(t, s, true)
	expectView(t, s, api.LinkView{State: api.Leaving, In: 3, Out: end, Wants: 3, Waits: 1, Test: true})

	s = up(t, exchange(), 0)
	s.store = last()
	expectOK(t, "Send", s.Send(of(api.Status, 1), 0))
	expectErr(t, "Send", s.Send(of(api.Status, 1), 0), api.ErrGreat)
	expectOK(t, "Leave", s.Leave("bye", 0))
	expectOut(t, s, false, mine(api.Status, api.MaxSeq, 0, func(m *api.Msg) { m.Symbol = "X" }))
	expectDone(t, s, of(api.Logout, 2), 0)
	expectOut(t, s, true)
	expectView(t, s, api.LinkView{State: api.Leaving, In: 3, Out: end})
}

// TestLastIn: the last number may come; behind it nothing does.
func TestLastIn(t *testing.T) {
	s := up(t, exchange(), 0)
	expectDone(t, s, of(api.Status, api.MaxSeq), 0)
	expectOut(t, s, false, mine(api.ResendRequest, 2, 0, asks(2, api.MaxSeq-1)))
	expectDone(t, s, fill(2, api.MaxSeq, "lost"), 0, of(api.Status, api.MaxSeq))
	expectView(t, s, api.LinkView{State: api.Up, In: api.MaxSeq + 1, Out: 3})
	expectDone(t, s, of(api.Status, api.MaxSeq+1), 0)
	expectDone(t, s, dup(of(api.Status, api.MaxSeq)), 0)
	expectView(t, s, api.LinkView{State: api.Up, In: api.MaxSeq + 1, Out: 3})
	expectDone(t, s, of(api.Status, api.MaxSeq), 0)
	expectOut(t, s, true, mine(api.Logout, 3, 0, says("low")))
}
