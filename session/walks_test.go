package session

import (
	"fmt"
	"math"
	"math/rand"
	"slices"
	"strings"
	"testing"

	"outcry/api"
)

// step: a call of a session.
type step struct {
	call string
	m    api.Msg
	text string
	now  int64
}

func (st step) String() string {
	return fmt.Sprintf("%s at %d: %+v %q", st.call, st.now, st.m, st.text)
}

// pair: a session, and what the chapter says of it.
type pair struct {
	s    *Session
	r    *reading
	past []*step
}

func newPair(t *testing.T, l api.Link) *pair {
	t.Helper()
	return &pair{s: newSession(t, l), r: newReading(l)}
}

// do makes both do a step, and tells in what they differ.
func (p *pair) do(st step) string {
	p.past = append(p.past, &st)
	var got, want api.Errno
	var gotList, wantList []api.Msg
	var gotEnds, wantEnds bool
	switch st.call {
	case "Connect":
		got, want = p.s.Connect(st.now), p.r.connect(st.now)
	case "Drop":
		got, want = p.s.Drop(st.now), p.r.drop(st.now)
	case "Hear":
		gotList, wantList = p.s.Hear(st.m, st.now), p.r.hear(st.m, st.now)
	case "Send":
		got, want = p.s.Send(st.m, st.now), p.r.sends(st.m, st.now)
	case "Leave":
		got, want = p.s.Leave(st.text, st.now), p.r.leave(st.text, st.now)
	case "Tick":
		got, want = p.s.Tick(st.now), p.r.tick(st.now)
	case "Out":
		gotList, gotEnds = p.s.Out()
		wantList, wantEnds = p.r.outs()
	}
	switch {
	case got != want:
		return fmt.Sprintf("answers %d, want %d", got, want)
	case !slices.Equal(gotList, wantList) || gotEnds != wantEnds:
		return fmt.Sprintf("tells %+v, %v, want %+v, %v", gotList, gotEnds, wantList, wantEnds)
	case p.s.View() != p.r.view():
		return fmt.Sprintf("View() = %+v, want %+v", p.s.View(), p.r.view())
	case !slices.Equal(p.s.Skipped(), p.r.rows()):
		return fmt.Sprintf("Skipped() = %v, want %v", p.s.Skipped(), p.r.rows())
	}
	return ""
}

// must does a step, and tells all steps up to it, if the two differ.
func (p *pair) must(t *testing.T, st step) {
	t.Helper()
	differ := p.do(st)
	if differ == "" {
		return
	}
	var b strings.Builder
	for _, x := range p.past {
		fmt.Fprintln(&b, x)
	}
	t.Fatalf("%+v:\n%s%s", p.r.link, b.String(), differ)
}

// maker makes steps that lie close to where the chapter turns.
type maker struct{ *rand.Rand }

func (g maker) oneIn(n int) bool { return g.Intn(n) == 0 }

func pick[T any](g maker, list ...T) T { return list[g.Intn(len(list))] }

func (g maker) link() api.Link {
	l := api.Link{Own: "EX", Peer: "FIRM", Beat: pick(g, 1, 1, 2, 30, 3600), Calls: g.oneIn(2), Keep: pick(g, 1, 2, 3, 5, 200)}
	if g.oneIn(4) {
		l.Slack = pick(g, 1, 500, 5000, int64(api.MaxTime))
	}
	return l
}

// now: a time at which something may be due, or just not, or none.
func (g maker) now(r *reading) int64 {
	if g.oneIn(40) {
		return pick[int64](g, -1, api.MaxTime+1, math.MinInt64, math.MaxInt64, -r.t)
	}
	if g.oneIn(400) {
		return api.MaxTime - int64(g.Intn(3))
	}
	due := []int64{r.t, r.t, r.t, r.t + 1, r.t - 1, r.t + int64(g.Intn(300)), r.t - int64(g.Intn(3000)), r.since + r.h(), r.sentAt + r.h(), r.askedAt + r.h(), r.tested + r.h(), r.heardAt + r.h()*6/5, r.heardAt + r.h()}
	n := due[g.Intn(len(due))]
	if g.oneIn(3) {
		n--
	}
	// Time is left at the end of which nothing moves any more.
	return max(0, min(n, api.MaxTime))
}

func (g maker) work() api.Msg {
	all := least()[7:]
	m := all[g.Intn(len(all))]
	m.Seq, m.Time = g.Intn(5), int64(g.Intn(5))
	if g.oneIn(20) {
		m.Dup, m.OrigTime = true, 3
	}
	if g.oneIn(20) {
		m.Qty = -1
	}
	if g.oneIn(20) {
		m.Kind = pick(g, 0, 1, 7, 18, -3, math.MaxInt)
	}
	return m
}

func (g maker) message(r *reading, now int64) api.Msg {
	all := least()
	m := all[g.Intn(len(all))]
	if g.oneIn(3) {
		m = all[pick(g, 0, 1, 2, 2, 4, 4, 6, 8)]
	}
	if r.state < 2 && !g.oneIn(6) {
		m = all[6]
	}
	m.Sender, m.Target = r.link.Peer, r.link.Own
	m.Seq = max(1, r.in+pick(g, 0, 0, 0, 0, 0, 0, 0, 1, 1, 2, 3, 4, 7, -1, -2))
	m.Dup = g.oneIn(5)
	t := max(r.t, now)
	m.Time = max(0, min(api.MaxTime, t+pick(g, 0, 0, 0, 0, 0, 0, r.link.Slack, -r.link.Slack, r.link.Slack+1, -r.link.Slack-1)))
	switch m.Kind {
	case api.Logon:
		m.Beat = r.link.Beat + pick(g, 0, 0, 0, 0, 0, 0, 0, 1, -1)
		m.Reset = g.oneIn(12)
	case api.ResendRequest:
		m.Begin = max(1, r.out()-g.Intn(r.out()+1))
		m.End = pick(g, 0, m.Begin, m.Begin+1, m.Begin+2, r.out()-1, r.out(), r.out()+5, api.MaxSeq)
	case api.SequenceReset:
		m.Fill = !g.oneIn(15)
		m.Next = max(1, m.Seq+pick(g, 1, 1, 1, 2, 2, 3, 5, 8, 0, -1))
		m.Text = pick(g, "lost", "lost", "lost", "", "", "Lost", "lost ", "x")
	case api.TestRequest:
		m.TestID = pick(g, "x", "37000", strings.Repeat("y", 20))
	}
	return g.spoilt(m)
}

// spoilt: seldom, a message that is wrong.
func (g maker) spoilt(m api.Msg) api.Msg {
	if !g.oneIn(15) {
		return m
	}
	switch g.Intn(6) {
	case 0:
		m.Sender, m.Target = m.Target, m.Sender
	case 1:
		m.Sender = pick(g, m.Target, "OTHER", "")
	case 2:
		m.Target = pick(g, m.Sender, "OTHER", "")
	case 3:
		m.Seq = pick(g, 0, -1, api.MaxSeq+1)
	case 4:
		m.Time = pick[int64](g, -1, api.MaxTime+1)
	case 5:
		m.Kind = pick(g, 0, 18, -1)
	}
	return m
}

func (g maker) step(r *reading) step {
	now := g.now(r)
	if !r.connected && g.oneIn(2) {
		return step{call: "Connect", now: now}
	}
	if r.ends && g.oneIn(3) {
		return step{call: "Drop", now: now}
	}
	switch n := g.Intn(40); {
	case n < 22:
		return step{call: "Hear", m: g.message(r, now), now: now}
	case n < 28:
		return step{call: "Tick", now: now}
	case n < 33:
		return step{call: "Send", m: g.work(), now: now}
	case n < 38:
		return step{call: "Out"}
	case n < 39:
		return step{call: pick(g, "Drop", "Connect"), now: now}
	}
	return step{call: "Leave", text: pick(g, "", "bye", "a|b", "\x1f", strings.Repeat("z", 60), strings.Repeat("z", 61)), now: now}
}

// TestWalks: whatever is called, the answers are the chapter's.
func TestWalks(t *testing.T) {
	t.Parallel()
	for part := range 8 {
		t.Run(fmt.Sprint(part), func(t *testing.T) {
			t.Parallel()
			for seed := range 250 {
				g := maker{rand.New(rand.NewSource(int64(part*1000 + seed)))}
				p := newPair(t, g.link())
				for range 150 {
					p.must(t, g.step(p.r))
				}
				p.must(t, step{call: "Out"})
			}
		})
	}
}

// TestAlone: of two sessions each does as if the other one were not there.
func TestAlone(t *testing.T) {
	t.Parallel()
	for seed := range 100 {
		g := maker{rand.New(rand.NewSource(int64(seed)))}
		a, b := newPair(t, g.link()), newPair(t, g.link())
		for range 150 {
			p := pick(g, a, b)
			p.must(t, g.step(p.r))
		}
		a.must(t, step{call: "Out"})
		b.must(t, step{call: "Out"})
	}
}

// few: steps of which each walk is made, of a session that keeps two messages.
func few() []step {
	const beat = 1000
	from := func(m api.Msg) step {
		m.Sender, m.Target = "FIRM", "EX"
		return step{call: "Hear", m: m}
	}
	list := []step{
		{call: "Drop"},
		{call: "Connect"},
		{call: "Tick", now: beat},
		{call: "Tick", now: beat * 6 / 5},
		{call: "Send", m: api.Msg{Kind: api.CancelOrder, ID: "a", OrigID: "b", Symbol: "X", Side: api.Buy}},
		{call: "Leave", text: "bye"},
		from(api.Msg{Kind: api.Logon, Seq: 2, Beat: 1}),
		from(api.Msg{Kind: api.Logon, Seq: 3, Beat: 1, Reset: true}),
		from(api.Msg{Kind: api.Logout, Seq: 2}),
		from(api.Msg{Kind: api.Status, Seq: 2, Symbol: "X", Dup: true}),
		from(api.Msg{Kind: api.Status, Seq: 3, Symbol: "Y"}),
		from(api.Msg{Kind: api.Status, Seq: 4, Symbol: "Z", Dup: true}),
		from(api.Msg{Kind: api.ResendRequest, Seq: 3, Begin: 1}),
		from(api.Msg{Kind: api.ResendRequest, Seq: 5, Begin: 2, End: 2}),
		from(api.Msg{Kind: api.SequenceReset, Seq: 2, Next: 5, Fill: true, Text: "lost"}),
		from(api.Msg{Kind: api.SequenceReset, Seq: 5, Next: 6, Fill: true, Text: "lost", Dup: true}),
		from(api.Msg{Kind: api.SequenceReset, Seq: 4, Next: 4, Fill: true}),
		from(api.Msg{Kind: api.TestRequest, Seq: 4, TestID: "x"}),
	}
	return list
}

// TestEachWalk: each walk of four steps behind a logon, and each of three from the beginning.
func TestEachWalk(t *testing.T) {
	t.Parallel()
	for _, calls := range []bool{false, true} {
		l := api.Link{Own: "EX", Peer: "FIRM", Beat: 1, Calls: calls, Keep: 2}
		logon := []step{{call: "Connect"}, {call: "Hear", m: api.Msg{Kind: api.Logon, Sender: "FIRM", Target: "EX", Seq: 1, Beat: 1}}}
		t.Run(fmt.Sprint("up ", calls), func(t *testing.T) { t.Parallel(); eachWalk(t, l, logon, few(), 4) })
		t.Run(fmt.Sprint("new ", calls), func(t *testing.T) { t.Parallel(); eachWalk(t, l, nil, few(), 3) })
	}
}

func eachWalk(t *testing.T, l api.Link, first, steps []step, length int) {
	all := 1
	for range length {
		all *= len(steps)
	}
	for walk := range all {
		p := newPair(t, l)
		for _, st := range first {
			p.must(t, st)
		}
		for range length {
			st := steps[walk%len(steps)]
			if st.call == "Tick" {
				st.now += p.r.t
			}
			p.must(t, st)
			walk /= len(steps)
		}
		p.must(t, step{call: "Out"})
	}
}
