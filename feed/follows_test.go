package feed

import (
	"fmt"
	"math/rand"
	"slices"
	"testing"

	"outcry/api"
	"outcry/clock"
	"outcry/engine"
)

// What follows in the chapter, and P11 of DOC.md as far as the feed reaches: who hears the packets of what an engine does has the engine's books.

const (
	aMinute = 60000
	aDay    = 1440 * aMinute
	monday  = 1709510400000 // 20240304
)

func listed() []string { return []string{"ABC", "XY", "Z"} }

func newEngine(t *testing.T) *engine.Engine {
	t.Helper()
	c, e := clock.NewCalendar()
	if e != api.OK {
		t.Fatal(e)
	}
	var l []api.Instrument
	for _, symbol := range listed() {
		l = append(l, api.Instrument{
			Symbol: symbol, Lot: 1, Most: api.MaxQty, Steps: []api.Step{{From: 0, Tick: 1}}, Reference: 1000,
			Turns: []api.Turn{{Minute: 480, Phase: api.PreOpen}, {Minute: 540, Phase: api.Trading}, {Minute: 1000, Phase: api.Closing}, {Minute: 1010, Phase: api.Closed}},
		})
	}
	x, e := engine.New(l, []api.Account{{Name: "A1"}, {Name: "A2"}, {Name: "A3"}}, c)
	if e != api.OK {
		t.Fatal(e)
	}
	return x
}

// randomDays makes commands up, over some days.
func randomDays(r *rand.Rand, many int) []api.Command {
	var l []api.Command
	at := int64(monday + 485*aMinute)
	for n := range many {
		o := api.Order{
			Name: fmt.Sprint("o", n), Account: []string{"A1", "A2", "A3"}[r.Intn(3)], Symbol: listed()[r.Intn(3)], Side: 1 + r.Intn(2), Type: api.Limit,
			Life: []int{api.Day, api.GTC, api.GTC, api.GTC, api.IOC, api.PostOnly, api.AtOpen}[r.Intn(7)], Price: 980 + r.Int63n(40), Qty: 1 + r.Int63n(500),
		}
		c := api.Command{Kind: api.DoNew, Time: at, Owner: 1 + r.Intn(2), O: o}
		ahead := fmt.Sprint("o", n-1-r.Intn(12))
		switch r.Intn(24) {
		case 0, 1:
			c.Kind, c.Name = api.DoCancel, ahead
		case 2, 3:
			c.Kind, c.Name, c.O = api.DoReplace, ahead, api.Order{Name: o.Name, Price: o.Price, Qty: o.Qty}
		case 4:
			c.Kind, c.O = api.DoMass, api.Order{Name: o.Name, Symbol: o.Symbol, Account: o.Account}
		case 5:
			c.Kind, c.O = []int{api.DoHalt, api.DoResume, api.DoResume}[r.Intn(3)], api.Order{Symbol: o.Symbol}
		case 6:
			c.O.Show = 1 + r.Int63n(o.Qty)
		case 7:
			c.O.Type, c.O.Life, c.O.Stop = api.StopLimit, api.Day, o.Price
		}
		l = append(l, c)
		at += r.Int63n(2 * aMinute)
		if at%aDay > 1015*aMinute {
			at += aDay - at%aDay + 485*aMinute
		}
	}
	return l
}

// shownBy is what an engine has, and what was traded by its events.
func shownBy(t *testing.T, x *engine.Engine, traded *shown) *shown {
	t.Helper()
	s := traded.copy()
	for place, symbol := range listed() {
		p, _, _ := x.Phase(symbol)
		s.Phase[place] = int64(p)
		for side := api.Buy; side <= api.Sell; side++ {
			l, e := x.Depth(symbol, side)
			if e != api.OK {
				t.Fatal(e)
			}
			for _, level := range l {
				s.setLevel(place, side, level.Price, [2]int64{level.Qty, int64(level.Orders)})
			}
		}
	}
	return s
}

// TestFollowsTheEngine: one hears all; one is late and joins by a snapshot now and then; one loses packets and gets them again.
func TestFollowsTheEngine(t *testing.T) {
	trades, levels, lost := 0, 0, 0
	for seed := range int64(12) {
		r := rand.New(rand.NewSource(seed))
		x, f, traded := newEngine(t), newFeed(t, listed()...), &shown{}
		all, late, loses := newListener(t, 3), newListener(t, 3), newListener(t, 3)
		for n, c := range randomDays(r, 500) {
			events := x.Do(c)
			for _, e := range events {
				if e.Kind == api.EvTrade && e.Side == api.Buy {
					traded.trade(slices.Index(listed(), e.Symbol), e.F.Price, e.F.Qty)
					trades++
				}
			}
			const now = 5
			told := f.Tell(events, now)
			is := shownBy(t, x, traded).String()
			levels += len(is)
			all.hear(told, now)
			late.hear(told, now)
			if n%50 == 49 {
				late = newListener(t, 3)
				late.join(f.Snapshot(now), now)
			}
			if r.Intn(3) == 0 {
				lost += len(told)
			} else {
				loses.hear(f.Again(loses.number+1, f.Next()-1), now)
				if loses.heard.String() != is {
					t.Fatalf("walk %d, command %d: who got what it lost has\n%v, want\n%v", seed, n, loses.heard, is)
				}
			}
			if all.heard.String() != is || late.heard.String() != is {
				t.Fatalf("walk %d, command %d: who heard all has\n%v, who joined\n%v, want\n%v", seed, n, all.heard, late.heard, is)
			}
		}
	}
	if trades < 1000 || lost < 500 || levels < 1000000 {
		t.Errorf("only %d trades, %d packets that were lost, %d bytes of levels", trades, lost, levels)
	}
}

// TestExchangeExample: the packets of chapter 24's example: the level, then the trade, and the level that is gone.
func TestExchangeExample(t *testing.T) {
	at := int64(monday + 550*aMinute)
	x, f := newEngine(t), newFeed(t, listed()...)
	f.Tell(x.Do(api.Command{Kind: api.DoTime, Time: at}), 0)
	sell := api.Order{Name: "s", Account: "A1", Symbol: "ABC", Side: api.Sell, Type: api.Limit, Life: api.Day, Price: 1000, Qty: 10}
	buy := api.Order{Name: "b", Account: "A2", Symbol: "ABC", Side: api.Buy, Type: api.Limit, Life: api.Day, Price: 1000, Qty: 10}
	same(t, "the sell", f.Tell(x.Do(api.Command{Kind: api.DoNew, Time: at, Owner: 1, O: sell}), 0), sealed(t, "00000002 01 0000 00  01 00 02 d00f 14 02"))
	same(t, "the buy", f.Tell(x.Do(api.Command{Kind: api.DoNew, Time: at, Owner: 2, O: buy}), 0), sealed(t, "00000003 01 0000 00  02 00 d00f 14  01 00 02 00 13 01"))
}

// TestP12TheSamePackets: whatever the number of workers of the engine, the packets are the same.
func TestP12TheSamePackets(t *testing.T) {
	l := randomDays(rand.New(rand.NewSource(3)), 300)
	var want []string
	for _, workers := range []int{0, 1, 2, 5, 16} {
		f := newFeed(t, listed()...)
		var got []string
		for _, events := range newEngine(t).Run(l, workers) {
			got = append(got, texts(f.Tell(events, 1))...)
		}
		if workers == 0 {
			want = got
		}
		if len(got) < 100 || !slices.Equal(got, want) {
			t.Errorf("%d workers: %d packets are others", workers, len(got))
		}
	}
}
