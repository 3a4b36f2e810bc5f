package session

import (
	"sort"

	"outcry/api"
	"outcry/msg"
)

// Hear hands in a message that came: those that are to be done, in their order (P3 to P9).
func (s *Session) Hear(m api.Msg, now int64) []api.Msg {
	if !isTime(now) || !s.connected || s.ends || s.isWrong(m) {
		return nil
	}
	s.move(now)
	s.heard, s.testing = s.latest, false
	if s.isOff(m.Time) {
		s.leave(goesTime)
		return nil
	}
	if s.state == api.Down || s.state == api.Asking {
		s.hearLogon(m)
		if s.ends {
			return nil
		}
	}
	return s.hearNumber(m)
}

func (s *Session) isWrong(m api.Msg) bool {
	e, _ := msg.Valid(m)
	return e != api.OK || m.Sender != s.link.Peer || m.Target != s.link.Own
}

func (s *Session) isOff(t int64) bool {
	far := max(t-s.latest, s.latest-t)
	return s.link.Slack > 0 && far > s.link.Slack
}

// hearLogon brings the session up by the first message of a connection, or ends it.
func (s *Session) hearLogon(m api.Msg) {
	switch {
	case m.Kind != api.Logon:
		s.ends = true
	case m.Reset:
		s.leave(goesReset)
	case m.Beat != s.link.Beat:
		s.leave(goesBeat)
	case m.Seq < s.in:
		s.leave(goesLow)
	default:
		if s.state == api.Down {
			s.logOn()
		}
		s.state = api.Up
	}
}

// hearNumber does what the message's number asks for (P5).
func (s *Session) hearNumber(m api.Msg) []api.Msg {
	switch {
	case m.Kind == api.SequenceReset && !m.Fill:
		s.leave(goesReset)
	case m.Seq < s.in:
		if !m.Dup {
			s.leave(goesLow)
		}
	case m.Seq > s.in:
		s.hearAhead(m)
	default:
		return s.hearTurn(m)
	}
	return nil
}

// hearAhead lets a message wait that came ahead of its turn, and asks for what is missing.
func (s *Session) hearAhead(m api.Msg) {
	if m.Kind == api.ResendRequest {
		// Two ends that waited for one another's missing messages would wait for ever.
		s.sendAgain(m)
	}
	s.wait(m)
	if s.wants == 0 {
		s.ask(m.Seq - 1)
	}
}

func (s *Session) wait(m api.Msg) {
	at := sort.Search(len(s.waiting), func(i int) bool { return s.waiting[i].Seq >= m.Seq })
	if len(s.waiting) >= s.link.Keep || at < len(s.waiting) && s.waiting[at].Seq == m.Seq {
		return
	}
	s.waiting = append(s.waiting, api.Msg{})
	copy(s.waiting[at+1:], s.waiting[at:])
	s.waiting[at] = m
}

// hearTurn takes the message whose turn it is, and those that waited for it.
func (s *Session) hearTurn(m api.Msg) []api.Msg {
	if m.Kind == api.ResendRequest {
		// Taking one answers nothing: each was answered when it came.
		s.sendAgain(m)
	}
	var done []api.Msg
	for turn := true; turn; m, turn = s.nextWaiting() {
		if s.take(m) {
			done = append(done, m)
		}
		if s.ends {
			return done
		}
	}
	s.askOn()
	return done
}

// nextWaiting throws away what waits and was passed over, and gives the message whose turn it is, if it waits.
func (s *Session) nextWaiting() (api.Msg, bool) {
	for len(s.waiting) > 0 && s.waiting[0].Seq <= s.in {
		m := s.waiting[0]
		// Its place stays for a while behind the list's back: its texts need not.
		s.waiting[0] = api.Msg{}
		s.waiting = s.waiting[1:]
		if m.Seq == s.in {
			return m, true
		}
	}
	return api.Msg{}, false
}

// askOn asks for the next gap, as soon as what was asked for has come.
func (s *Session) askOn() {
	if s.wants == 0 || s.in <= s.wants {
		return
	}
	s.wants = 0
	if len(s.waiting) > 0 {
		s.ask(s.waiting[0].Seq - 1)
	}
}

// take takes a message; is it to be done (P6)?
func (s *Session) take(m api.Msg) bool {
	takes := [...]func(*Session, api.Msg) bool{
		api.Heartbeat:     (*Session).takeNote,
		api.TestRequest:   (*Session).takeTest,
		api.ResendRequest: (*Session).takeNote,
		api.Reject:        (*Session).takeNote,
		api.SequenceReset: (*Session).takeFill,
		api.Logout:        (*Session).takeLogout,
		api.Logon:         (*Session).takeLogon,
		api.NewOrder:      (*Session).takeWork,
		api.CancelOrder:   (*Session).takeWork,
		api.ReplaceOrder:  (*Session).takeWork,
		api.MassCancel:    (*Session).takeWork,
		api.AskStatus:     (*Session).takeWork,
		api.Execution:     (*Session).takeWork,
		api.CancelReject:  (*Session).takeWork,
		api.MassReport:    (*Session).takeWork,
		api.Refused:       (*Session).takeWork,
		api.Status:        (*Session).takeWork,
	}
	s.in = m.Seq + 1
	return takes[m.Kind](s, m)
}

func (s *Session) takeNote(api.Msg) bool { return false }

func (s *Session) takeWork(api.Msg) bool { return true }

func (s *Session) takeTest(m api.Msg) bool {
	s.send(api.Msg{Kind: api.Heartbeat, TestID: m.TestID})
	return false
}

func (s *Session) takeFill(m api.Msg) bool {
	if m.Next <= m.Seq {
		s.leave(goesFill)
		return false
	}
	s.in = m.Next
	if m.Text == lost {
		s.skip(m.Seq, m.Next-1)
	}
	return false
}

func (s *Session) skip(from, to int) {
	if last := len(s.skipped) - 1; last >= 0 && s.skipped[last][1] == from-1 {
		s.skipped[last][1] = to
		return
	}
	s.skipped = append(s.skipped, [2]int{from, to})
}

func (s *Session) takeLogout(api.Msg) bool {
	if s.state != api.Leaving {
		s.logOut("")
	}
	s.ends = true
	return false
}

func (s *Session) takeLogon(m api.Msg) bool {
	if m.Reset {
		s.leave(goesReset)
	}
	return false
}
