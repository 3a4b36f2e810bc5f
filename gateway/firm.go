package gateway

import (
	"slices"

	"outcry/api"
	"outcry/msg"
	"outcry/session"
)

// beat: the seconds between heartbeats, of all firms.
const beat = 30

// firm is one of those that may log on, and its end of the session here.
type firm struct {
	*session.Session
	name     string
	place    int
	accounts []string
}

// admit puts a firm behind those that are there.
func (g *Gateway) admit(f Firm) api.Errno {
	if len(f.Accounts) < 1 || len(f.Accounts) > api.MaxAccount || g.firmOf(f.Name) != nil {
		return api.ErrArg
	}
	s, err := session.New(api.Link{Own: g.own, Peer: f.Name, Beat: beat, Keep: f.Keep})
	if err != api.OK {
		return err
	}
	x := &firm{Session: s, name: f.Name, place: len(g.firms) + 1}
	g.firms = append(g.firms, x)
	for _, account := range f.Accounts {
		if !msg.IsName(account) || slices.ContainsFunc(g.firms, func(f *firm) bool { return f.has(account) }) {
			return api.ErrArg
		}
		x.accounts = append(x.accounts, account)
	}
	return api.OK
}

func (f *firm) has(account string) bool { return slices.Contains(f.accounts, account) }

// firmOf gives the firm of a name; nil, if there is none.
func (g *Gateway) firmOf(name string) *firm {
	for _, f := range g.firms {
		if f.name == name {
			return f
		}
	}
	return nil
}

// firmAt gives the firm at a place, which is the owner of its orders; nil, if there is none.
func (g *Gateway) firmAt(place int) *firm {
	if place < 1 || place > len(g.firms) {
		return nil
	}
	return g.firms[place-1]
}

// send sends a message to a firm. What the session refuses is not sent, and nobody is told.
func (g *Gateway) send(f *firm, m api.Msg) { f.Send(m, g.latest) }
