package exchange

import (
	"math/rand"
	"slices"
	"testing"

	"outcry/api"
	"outcry/arbiter"
	"outcry/viewer"
)

// Who follows the feed over two lines, which lose packets, double them, and bring them late (P11 of DOC.md).

// line is packets on their way.
type line []struct {
	packet []byte
	at     int64
}

// follower hears two lines.
type follower struct {
	*rand.Rand
	t     *testing.T
	v     *viewer.Viewer
	a     *arbiter.Arbiter
	lines [2]line
	was   []string // what who hears all had behind each packet
}

func newFollower(t *testing.T, r *rand.Rand) *follower {
	t.Helper()
	a, e := arbiter.New(50, 3*second)
	expect(t, "arbiter.New", e, api.OK)
	return &follower{Rand: r, t: t, v: newViewer(t, symbols()...), a: a}
}

// sent puts packets onto both lines.
func (f *follower) sent(l [][]byte, now int64) {
	for _, b := range l {
		for n := range f.lines {
			for range []int{0, 0, 1, 1, 1, 2}[f.Intn(6)] {
				f.lines[n] = append(f.lines[n], line{{slices.Clone(b), now + f.Int63n(2*second)}}...)
			}
		}
	}
}

// hears takes in what has come over both lines by now.
func (f *follower) hears(now int64) {
	f.t.Helper()
	for n := range f.lines {
		var late line
		for _, x := range f.lines[n] {
			if x.at > now {
				late = append(late, x)
				continue
			}
			l, e := f.a.Hear(n, x.packet, now)
			expect(f.t, "the arbiter", e, api.OK)
			f.take(l)
		}
		f.lines[n] = late
	}
	f.take(f.a.Tick(now))
}

func (f *follower) take(l [][]byte) {
	f.t.Helper()
	for _, b := range l {
		expect(f.t, "the viewer", f.v.Hear(b), api.OK)
		f.is()
	}
}

// is: it has the books as they were behind its packet.
func (f *follower) is() {
	f.t.Helper()
	if got, want := state(f.v), f.was[f.v.Number()]; got != want {
		f.t.Errorf("behind the packet %d:\n%s, want\n%s", f.v.Number(), got, want)
	}
}

// catchesUp gets what is missing, or a snapshot, and then has the books as they are.
func (f *follower) catchesUp(m *market, snapshot bool) {
	f.t.Helper()
	if _, from := f.v.Gapped(); snapshot || from <= len(m.packets)-api.MaxAgain {
		hears(f.t, f.v, m.x.Snapshot(m.now))
		f.is()
	} else {
		f.take(m.x.Again(from, len(m.packets)))
	}
	if gapped, _ := f.v.Gapped(); gapped || f.v.Number() != len(m.packets) || state(f.v) != state(m.v) {
		f.t.Errorf("gapped %v, at %d of %d packets, and has\n%s, want\n%s", gapped, f.v.Number(), len(m.packets), state(f.v), state(m.v))
	}
	(&world{t: f.t, x: m.x}).shown(f.v, symbols()...)
}

func TestLines(t *testing.T) {
	t.Parallel()
	gaps, caughtUp := 0, 0
	for seed := range 60 {
		m := newMarket(t, int64(seed), 200, 1, 2, 1)
		m.leaps = true
		f, all, given := newFollower(t, m.Rand), newViewer(t, symbols()...), 0
		f.was = append(f.was, state(all))
		m.pass(nine - minute)
		for range 500 {
			m.act()
			for _, b := range m.packets[given:] {
				expect(t, "who hears all", all.Hear(b), api.OK)
				f.was = append(f.was, state(all))
			}
			f.sent(m.packets[given:], m.now)
			given = len(m.packets)
			f.hears(m.now)
			if gapped, _ := f.v.Gapped(); gapped {
				gaps++
				if m.Intn(6) == 0 {
					caughtUp++
					f.catchesUp(m, m.Intn(2) == 0)
				}
			} else {
				f.is()
			}
		}
		if t.Failed() {
			t.Fatalf("seed %d", seed)
		}
	}
	if gaps < 200 || caughtUp < 40 {
		t.Errorf("only %d times gapped, %d times caught up", gaps, caughtUp)
	}
}
