package session

import (
	"fmt"
	"slices"
	"sort"

	"outcry/api"
	"outcry/msg"
)

// A second reading of the chapter, by other means, against which the package is held: all that was sent is written down number by number, what waits stands in a map, and each rule is asked as its sentence has it.

type reading struct {
	link api.Link

	passed int       // so many numbers were passed over ahead of all that is written down
	sent   []api.Msg // of each number behind these: its message, or an empty one, if it was skipped
	in     int

	connected, ends bool
	state           int
	waits           map[int]api.Msg
	wants           int
	test            bool
	skipped         [][2]int // as they came
	box             []api.Msg

	t                                       int64
	since, heardAt, sentAt, askedAt, tested int64
}

func newReading(l api.Link) *reading {
	return &reading{link: l, in: 1, waits: map[int]api.Msg{}}
}

func (r *reading) out() int { return r.passed + len(r.sent) + 1 }

func (r *reading) h() int64 { return int64(r.link.Beat) * 1000 }

func wrongTime(now int64) bool { return now < 0 || now > 253402300799999 }

func (r *reading) time(now int64) {
	if now > r.t {
		r.t = now
	}
}

func (r *reading) send(m api.Msg) {
	m.Sender, m.Target, m.Seq, m.Time = r.link.Own, r.link.Peer, r.out(), r.t
	if m.Seq > 999999999 {
		return
	}
	r.sent = append(r.sent, api.Msg{})
	r.box = append(r.box, m)
	r.sentAt = r.t
}

func (r *reading) goes(text string) {
	r.send(api.Msg{Kind: 6, Text: text})
	r.state = 3
	r.ends = true
}

func (r *reading) ask(to int) {
	r.send(api.Msg{Kind: 3, Begin: r.in, End: to})
	r.wants = to
	r.askedAt = r.t
}

func (r *reading) fresh() {
	r.waits = map[int]api.Msg{}
	r.wants, r.test, r.box, r.ends = 0, false, nil, false
}

func (r *reading) connect(now int64) api.Errno {
	if wrongTime(now) {
		return api.ErrArg
	}
	if r.connected {
		return api.ErrState
	}
	r.time(now)
	r.fresh()
	r.connected = true
	r.since, r.heardAt, r.sentAt = r.t, r.t, r.t
	r.state = 0
	if r.link.Calls {
		r.state = 1
		r.send(api.Msg{Kind: 7, Beat: r.link.Beat})
	}
	return api.OK
}

func (r *reading) drop(now int64) api.Errno {
	if wrongTime(now) {
		return api.ErrArg
	}
	if !r.connected {
		return api.ErrState
	}
	r.time(now)
	r.fresh()
	r.connected, r.state = false, 0
	return api.OK
}

func (r *reading) hear(m api.Msg, now int64) []api.Msg {
	if wrongTime(now) || !r.connected || r.ends {
		return nil
	}
	if e, _ := msg.Valid(m); e != api.OK || m.Sender != r.link.Peer || m.Target != r.link.Own {
		return nil
	}
	r.time(now)
	r.heardAt = r.t
	r.test = false
	if slack := r.link.Slack; slack > 0 && (m.Time > r.t+slack || m.Time < r.t-slack) {
		r.goes("time")
		return nil
	}
	if r.state >= 2 {
		return r.numbers(m)
	}
	if m.Kind != 7 {
		r.ends = true
		return nil
	}
	return r.logon(m)
}

func (r *reading) logon(m api.Msg) []api.Msg {
	if m.Reset {
		r.goes("reset")
		return nil
	}
	if m.Beat != r.link.Beat {
		r.goes("beat")
		return nil
	}
	if m.Seq < r.in {
		r.goes("low")
		return nil
	}
	if r.state == 0 {
		r.send(api.Msg{Kind: 7, Beat: r.link.Beat})
	}
	r.state = 2
	return r.numbers(m)
}

func (r *reading) numbers(m api.Msg) []api.Msg {
	if m.Kind == 5 && !m.Fill {
		r.goes("reset")
		return nil
	}
	if m.Seq < r.in && m.Dup {
		return nil
	}
	if m.Seq < r.in {
		r.goes("low")
		return nil
	}
	if m.Seq > r.in {
		if m.Kind == 3 {
			r.again(m)
		}
		if _, there := r.waits[m.Seq]; !there && len(r.waits) < r.link.Keep {
			r.waits[m.Seq] = m
		}
		if r.wants == 0 {
			r.ask(m.Seq - 1)
		}
		return nil
	}
	return r.turn(m)
}

// turn: the fourth rule of the numbers.
func (r *reading) turn(m api.Msg) []api.Msg {
	done := r.take(m, false)
	for !r.ends {
		next, there := r.waits[r.in]
		if !there {
			break
		}
		r.forget(r.in)
		done = append(done, r.take(next, true)...)
	}
	if r.ends {
		return done
	}
	r.forget(r.in - 1)
	if r.wants != 0 && r.in > r.wants {
		r.wants = 0
		least := 0
		for seq := range r.waits {
			if least == 0 || seq < least {
				least = seq
			}
		}
		if least != 0 {
			r.ask(least - 1)
		}
	}
	return done
}

// forget lets nothing wait any more up to a number.
func (r *reading) forget(to int) {
	for seq := range r.waits {
		if seq <= to {
			delete(r.waits, seq)
		}
	}
}

func (r *reading) take(m api.Msg, waited bool) []api.Msg {
	r.in = m.Seq + 1
	switch m.Kind {
	case 1, 4:
	case 2:
		r.send(api.Msg{Kind: 1, TestID: m.TestID})
	case 3:
		if !waited {
			r.again(m)
		}
	case 5:
		if m.Next <= m.Seq {
			r.goes("fill")
			break
		}
		r.in = m.Next
		if m.Text == "lost" {
			r.skipped = append(r.skipped, [2]int{m.Seq, m.Next - 1})
		}
	case 6:
		if r.state != 3 {
			r.send(api.Msg{Kind: 6})
		}
		r.state, r.ends = 3, true
	case 7:
		if m.Reset {
			r.goes("reset")
		}
	default:
		return []api.Msg{m}
	}
	return nil
}

// one: what belongs to a number that was passed: k a message, l one that was dropped, s none.
func (r *reading) one(n int) byte {
	if n <= r.passed || r.sent[n-r.passed-1].Kind == 0 {
		return 's'
	}
	behind := 0
	for _, m := range r.sent[n-r.passed:] {
		if m.Kind != 0 {
			behind++
		}
	}
	if behind >= r.link.Keep {
		return 'l'
	}
	return 'k'
}

func (r *reading) again(m api.Msg) {
	to := m.End
	if to == 0 || to > r.out()-1 {
		to = r.out() - 1
	}
	for n := m.Begin; n <= to; n++ {
		what := r.one(n)
		if what == 'k' {
			again := r.sent[n-r.passed-1]
			again.Dup, again.OrigTime, again.Time = true, again.Time, r.t
			r.box = append(r.box, again)
			r.sentAt = r.t
			continue
		}
		from := n
		n = max(n, min(r.passed, to)) // what is not written down is one row
		for n < to && r.one(n+1) == what {
			n++
		}
		row := api.Msg{Kind: 5, Sender: r.link.Own, Target: r.link.Peer, Fill: true, Seq: from, Next: n + 1, Dup: true, Time: r.t}
		if what == 'l' {
			row.Text = "lost"
		}
		r.box = append(r.box, row)
		r.sentAt = r.t
	}
}

func (r *reading) sends(m api.Msg, now int64) api.Errno {
	if wrongTime(now) {
		return api.ErrArg
	}
	if m.Kind < 8 || m.Kind > 17 {
		return api.ErrKind
	}
	if r.out() > 999999999 {
		return api.ErrGreat
	}
	m.Sender, m.Target, m.Seq, m.Time, m.Dup, m.OrigTime = r.link.Own, r.link.Peer, r.out(), max(now, r.t), false, 0
	if e, _ := msg.Valid(m); e != api.OK {
		return e
	}
	r.time(now)
	r.sent = append(r.sent, m)
	if r.state == 2 {
		r.box = append(r.box, m)
		r.sentAt = r.t
	}
	return api.OK
}

func (r *reading) leave(text string, now int64) api.Errno {
	if wrongTime(now) || !msg.IsText(text) {
		return api.ErrArg
	}
	if r.state != 2 {
		return api.ErrState
	}
	r.time(now)
	r.send(api.Msg{Kind: 6, Text: text})
	r.state = 3
	r.since = r.t
	return api.OK
}

func (r *reading) tick(now int64) api.Errno {
	if wrongTime(now) {
		return api.ErrArg
	}
	r.time(now)
	if !r.connected || r.ends {
		return api.OK
	}
	if r.state != 2 {
		if r.t >= r.since+r.h() {
			r.ends = true
		}
		return api.OK
	}
	if r.test && r.t >= r.tested+r.h() {
		r.goes("silent")
		return api.OK
	}
	if !r.test && r.t >= r.heardAt+r.h()*6/5 {
		r.send(api.Msg{Kind: 2, TestID: fmt.Sprint(r.t)})
		r.test, r.tested = true, r.t
	}
	if r.wants != 0 && r.t >= r.askedAt+r.h() {
		r.ask(r.wants)
	}
	if r.t >= r.sentAt+r.h() {
		r.send(api.Msg{Kind: 1})
	}
	return api.OK
}

func (r *reading) outs() ([]api.Msg, bool) {
	box := r.box
	r.box = nil
	return box, r.ends
}

// rows: the numbers that were skipped, each row as long as can be.
func (r *reading) rows() [][2]int {
	all := slices.Clone(r.skipped)
	sort.Slice(all, func(i, j int) bool { return all[i][0] < all[j][0] })
	for i := 0; i+1 < len(all); {
		if all[i][1]+1 == all[i+1][0] {
			all[i][1] = all[i+1][1]
			all = slices.Delete(all, i+1, i+2)
			continue
		}
		i++
	}
	return all
}

func (r *reading) view() api.LinkView {
	return api.LinkView{State: r.state, In: r.in, Out: r.out(), Wants: r.wants, Waits: len(r.waits), Test: r.test}
}
