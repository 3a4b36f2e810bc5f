package session

import (
	"fmt"
	"math/rand"
	"slices"
	"testing"

	"outcry/api"
	"outcry/msg"
)

// Two ends, each the other's peer, over connections that break: what follows from the promises.

// end: a session, with all that it was given to send, and all that it was told to do.
type end struct {
	s       *Session
	given   []api.Msg // with the number that each got
	done    []api.Msg
	way     []api.Msg // on its way to this end, over the connection that there is
	on      bool      // it has not dropped the connection yet
	logouts []string
}

// world: two ends, the first of which calls.
type world struct {
	t    *testing.T
	g    maker
	ends [2]*end
	now  int64
	h    int64
	open bool // what goes out gets onto its way
}

func newWorld(t *testing.T, seed int64) *world {
	t.Helper()
	g := maker{rand.New(rand.NewSource(seed))}
	a := firm()
	a.Beat = pick(g, 1, 2, 30)
	b := exchange()
	b.Beat = a.Beat
	a.Keep, b.Keep = pick(g, 1, 2, 4, 200), pick(g, 1, 2, 4, 200)
	w := &world{t: t, g: g, h: int64(a.Beat) * 1000}
	w.ends = [2]*end{{s: newSession(t, a)}, {s: newSession(t, b)}}
	return w
}

func (w *world) connect() {
	for _, e := range w.ends {
		expectOK(w.t, "Connect", e.s.Connect(w.now))
		e.on, e.way = true, nil
	}
	w.open = true
}

func (w *world) drop(i int) {
	e := w.ends[i]
	if !e.on {
		return
	}
	expectOK(w.t, "Drop", e.s.Drop(w.now))
	e.on = false
	e.way = nil
	w.open = false
}

// send gives an end something to send.
func (w *world) send(i int) {
	e := w.ends[i]
	m := with(of(api.Status, 1), says(fmt.Sprint(i, " ", len(e.given))))
	n := e.s.View().Out
	expectOK(w.t, "Send", e.s.Send(m, w.now))
	m.Sender, m.Target, m.Seq = e.s.link.Own, e.s.link.Peer, n
	e.given = append(e.given, m)
}

// collect puts what goes out on its way, of which some may be lost when the connection breaks.
func (w *world) collect(i int) {
	e, other := w.ends[i], w.ends[1-i]
	l, ends := e.s.Out()
	for _, m := range l {
		if x, _ := msg.Valid(m); x != api.OK {
			w.t.Fatalf("what goes out is no message: %+v", m)
		}
		if m.Kind == api.Logout {
			e.logouts = append(e.logouts, m.Text)
		}
	}
	if w.open && e.on {
		other.way = append(other.way, l...)
	}
	if ends {
		w.drop(i)
	}
}

// hear lets an end hear the first message that is on its way.
func (w *world) hear(i int) {
	e := w.ends[i]
	if len(e.way) == 0 || !e.on {
		return
	}
	m := e.way[0]
	e.way = e.way[1:]
	e.done = append(e.done, e.s.Hear(m, w.now)...)
}

// act does something at random.
func (w *world) act() {
	i := w.g.Intn(2)
	switch n := w.g.Intn(100); {
	case n < 20:
		w.send(i)
	case n < 45:
		w.collect(i)
	case n < 80:
		w.hear(i)
	case n < 90:
		w.now += pick(w.g, 0, 1, w.h/7, w.h/3, w.h/2, w.h, w.h*6/5)
		expectOK(w.t, "Tick", w.ends[i].s.Tick(w.now))
	case n < 93:
		w.breakOff(i)
	case n < 94:
		w.ends[i].s.Leave("bye", w.now)
	default:
		if !w.ends[0].on && !w.ends[1].on {
			w.connect()
		}
	}
}

// breakOff lets an end lose its connection; of what is on its way to the other one, the first may still come.
func (w *world) breakOff(i int) {
	other := w.ends[1-i]
	other.way = other.way[:w.g.Intn(len(other.way)+1)]
	w.drop(i)
}

// settle lets a connection stay, and time go on, until both have heard all.
func (w *world) settle() {
	for range 200 {
		for i := range w.ends {
			if !w.open {
				w.drop(0)
				w.drop(1)
				w.connect()
			}
			w.collect(i)
			for len(w.ends[i].way) > 0 && w.ends[i].on {
				w.hear(i)
			}
			w.now += w.h / 10
			expectOK(w.t, "Tick", w.ends[i].s.Tick(w.now))
		}
	}
}

// check holds what one end has done against what the other one was given.
func (w *world) check(by, from int, all bool) {
	w.t.Helper()
	e, other := w.ends[by], w.ends[from]
	skipped := map[int]bool{}
	for _, row := range e.s.Skipped() {
		for n := row[0]; n <= row[1]; n++ {
			skipped[n] = true
		}
	}
	var want []string
	for _, m := range other.given {
		if m.Seq < e.s.View().In && !skipped[m.Seq] {
			want = append(want, bare(m))
		}
		delete(skipped, m.Seq)
		if all && m.Seq >= e.s.View().In {
			w.t.Errorf("%d was not heard in the end: %+v", m.Seq, e.s.View())
		}
	}
	if len(skipped) > 0 {
		w.t.Errorf("skipped, and none of the other's messages: %v", skipped)
	}
	var got []string
	for _, m := range e.done {
		got = append(got, bare(m))
	}
	if !slices.Equal(got, want) {
		w.t.Errorf("done %v, want %v", got, want)
	}
	if _, dropped := other.s.store.Kept(); dropped == 0 && len(e.s.Skipped()) > 0 {
		w.t.Errorf("skipped %v, and nothing was dropped", e.s.Skipped())
	}
	for _, text := range e.logouts {
		if text != "" && text != "bye" && text != "silent" {
			w.t.Errorf("it went: %s", text)
		}
	}
}

// bare tells a message but for what changes when it is sent again.
func bare(m api.Msg) string {
	m.Dup, m.Time, m.OrigTime = false, 0, 0
	return fmt.Sprint(m.Seq, " ", m.Sender, " ", m.Text)
}

// lostAreOld: what is told as skipped are messages that the other one's store had dropped.
func (w *world) lostAreOld(by, from int) {
	for _, row := range w.ends[by].s.Skipped() {
		for n := row[0]; n <= row[1]; n++ {
			parts, e := w.ends[from].s.store.Parts(n, n)
			if e != api.OK || !parts[0].Lost {
				w.t.Errorf("%d is skipped, and was not dropped: %+v", n, parts)
			}
		}
	}
}

func TestTwoEnds(t *testing.T) {
	t.Parallel()
	for part := range 4 {
		t.Run(fmt.Sprint(part), func(t *testing.T) {
			t.Parallel()
			for seed := range 150 {
				w := newWorld(t, int64(part*1000+seed))
				for range 400 {
					w.act()
				}
				w.check(0, 1, false)
				w.check(1, 0, false)
				w.settle()
				for i := range w.ends {
					w.check(i, 1-i, true)
					w.lostAreOld(i, 1-i)
				}
				if t.Failed() {
					t.Fatalf("seed %d of part %d", seed, part)
				}
			}
		})
	}
}
