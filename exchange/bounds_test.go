package exchange

import (
	"bytes"
	"fmt"
	"slices"
	"testing"

	"outcry/api"
	"outcry/framer"
	"outcry/gateway"
	"outcry/tape"
)

// TestLedgerFull: what the ledger refuses is not booked; all else goes on.
func TestLedgerFull(t *testing.T) {
	t.Parallel()
	l := []api.Command{{Kind: api.DoTime, Time: nine}}
	for round := range 3 {
		for n := range 400 { // orders that show a hundredth of themselves: each trades a hundred times
			c := newOrder(nine, 1, fmt.Sprint("s", round, "-", n), "A1", api.Sell, 100, 1000)
			c.O.Show = 1
			l = append(l, c)
		}
		l = append(l, newOrder(nine, 2, fmt.Sprint("b", round), "A2", api.Buy, 35000, 1000))
		l = append(l, api.Command{Kind: api.DoMass, Time: nine, Owner: 1})
	}
	w := &world{t: t, x: open(t, theSetup(), taped(t, l...)), now: nine}
	// 105000 were traded, of which 100000 are booked; a maker gets 1 (of 0.1) of each.
	w.balance("A1", "ABC", -100000, 100000*1001)
	w.balance("A2", "ABC", 100000, -100000*1000)
	w.balance("", "ABC", 0, -100000)
	a, b := w.joined()
	w.sends(a, limit("s", "A1", api.Sell, 10, 1000))
	w.sends(b, limit("b", "A2", api.Buy, 4, 1000))
	if v := b.Orders(); len(v) != 1 || v[0].State != 3 {
		t.Errorf("the buyer knows %+v", v)
	}
	w.balance("A1", "ABC", -100000, 100000*1001)
	w.depth("ABC", api.Sell, api.Level{Price: 1000, Qty: 6, Orders: 1})
	if p := w.x.Packets(); len(p) != 2 {
		t.Errorf("packets %x", p)
	}
	w.closes(
		api.Booking{Symbol: "ABC", Fee: 100000},
		api.Booking{Account: "A1", Symbol: "ABC", Qty: -100000, Cash: 100000000, Fee: -100000},
		api.Booking{Account: "A2", Symbol: "ABC", Qty: 100000, Cash: -100000000},
	)
}

// TestTapeFull: what the tape refuses is not on it, but is done.
func TestTapeFull(t *testing.T) {
	t.Parallel()
	reel := tape.New()
	for range 999998 {
		reel.Append(api.Command{Kind: api.DoTime, Time: nine})
	}
	w := &world{t: t, x: open(t, theSetup(), reel.Bytes()), now: nine}
	a := w.join("F1", framer.Text)
	for n := range int64(4) {
		w.sends(a, limit(fmt.Sprint("o", n), "A1", api.Sell, 1, 1000+n))
	}
	reel.Append(newOrder(nine, 1, "o0", "A1", api.Sell, 1, 1000))
	reel.Append(newOrder(nine, 1, "o1", "A1", api.Sell, 1, 1001))
	if !bytes.Equal(w.x.Tape(), reel.Bytes()) {
		t.Errorf("%d bytes are on the tape, want %d", len(w.x.Tape()), len(reel.Bytes()))
	}
	if l, _ := w.x.Depth("ABC", api.Sell); len(l) != 4 {
		t.Errorf("for sale: %v", l)
	}
	if p := w.x.Packets(); len(p) != 4 {
		t.Errorf("packets %x", p)
	}
}

// TestManyPackets: a call tells as many as there are, in order, and Packets gives them all.
func TestManyPackets(t *testing.T) {
	s := theSetup()
	s.Instruments = nineInstruments()[:8]
	s.Accounts = append(s.Accounts, api.Account{Name: "A3"})
	s.Firms[0].Accounts = []string{"A1", "A3"}
	w := morning(t, s)
	a := w.join("F1", framer.Binary)
	for place := range 8 {
		for n := range 120 {
			m := limit(fmt.Sprint(place, "-", n), "A1", api.Sell, 1, 1000+int64(n))
			m.Symbol = fmt.Sprint("S", place)
			w.sends(a, m)
		}
	}
	got := w.x.Packets()
	if len(got) != 960 || numberOf(got[959]) != 961 {
		t.Errorf("%d packets", len(got))
	}
	v, symbols := newViewer(t, "S0", "S1", "S2", "S3", "S4", "S5", "S6", "S7"), []string{"S0", "S7"}
	hears(t, v, w.x.Snapshot(nine))
	w.shown(v, symbols...)
	for _, symbol := range symbols {
		if l, _ := w.x.Depth(symbol, api.Sell); len(l) != 120 { // all levels, however many
			t.Errorf("%d levels of %s", len(l), symbol)
		}
	}
	w.tick(nine + 9*hour) // all orders expire
	l := w.x.Packets()
	if len(l) < 8 {
		t.Errorf("%d packets", len(l))
	}
	for n, b := range l {
		if numberOf(b) != 962+n || timeOf(b) != nine+9*hour {
			t.Errorf("packet %d: %x", n, b)
		}
	}
	if !samePackets(w.x.Again(962, 9999), l) {
		t.Errorf("Again tells others")
	}
}

// TestNothingKept: what was handed in may be changed behind a call, and is not changed by one (P3).
func TestNothingKept(t *testing.T) {
	run := func(spoil bool) (*world, []byte) {
		t.Helper()
		s, b := twoListed(), taped(t, api.Command{Kind: api.DoTime, Time: monday + 7*hour}, newOrder(monday+8*hour, 1, "old", "A1", api.Sell, 10, 1003))
		s.Holidays = []int{20240306}
		was := fmt.Sprintf("%+v %x", s, b)
		x := open(t, s, b)
		if is := fmt.Sprintf("%+v %x", s, b); is != was {
			t.Errorf("Open writes into what is handed in:\n%s, was\n%s", is, was)
		}
		if spoil {
			for n := range s.Instruments {
				i := &s.Instruments[n]
				i.Steps[0], i.Turns[0], i.Turns[1] = api.Step{From: 7, Tick: 77}, api.Turn{}, api.Turn{}
				*i = api.Instrument{Symbol: "OTHER"}
			}
			s.Accounts[0], s.Accounts[1] = api.Account{Name: "A7", Order: 1}, api.Account{}
			s.Firms[0].Accounts[0], s.Firms[1].Accounts[0] = "A2", "A1"
			s.Firms[0], s.Firms[1] = gateway.Firm{}, gateway.Firm{Name: "X"}
			s.Holidays[0] = 20240304
			clear(b)
		}
		w := &world{t: t, x: x, now: nine}
		w.tick(nine)
		a, c := w.joined()
		w.sends(a, limit("s", "A1", api.Sell, 10, 1001))
		expect(t, "Order", c.Order(limit("b", "A2", api.Buy, 15, 1003), w.now), api.OK)
		up, _ := c.Out()
		was = string(up)
		expect(t, "Bytes", x.Bytes(c.conn, up[:50], w.now), api.OK)
		expect(t, "Bytes", x.Bytes(c.conn, up[50:], w.now), api.OK)
		if string(up) != was {
			t.Errorf("Bytes writes into what is handed in")
		}
		clear(up)
		return w, x.Tape()
	}
	w, b := run(false)
	v, c := run(true)
	if !bytes.Equal(b, c) || !samePackets(w.x.Again(1, 99), v.x.Again(1, 99)) || !slices.Equal(w.x.Close(), v.x.Close()) {
		t.Errorf("what was handed in is kept")
	}
}

// TestAnswersAreNew: whoever gets an answer may write into it, and behind it (P3).
func TestAnswersAreNew(t *testing.T) {
	w := morning(t, theSetup())
	a, b := w.joined()
	w.sends(a, limit("s", "A1", api.Sell, 10, 1000), limit("t", "A1", api.Sell, 10, 1001), limit("u", "A1", api.Sell, 10, 1002))
	w.sends(b, limit("b", "A2", api.Buy, 4, 1000))
	w.sends(b, limit("c", "A2", api.Buy, 3, 1000))
	lists := func() [][][]byte {
		return [][][]byte{w.x.Again(1, 99), w.x.Snapshot(nine), {w.x.Tape()}}
	}
	state := func() string {
		l, _ := w.x.Depth("ABC", api.Sell)
		return fmt.Sprintf("%x %v", lists(), l)
	}
	was := state()
	spoil := func(b []byte) {
		b = b[:cap(b)]
		for n := range b {
			b[n] ^= 0xff
		}
	}
	packets := w.x.Packets()
	all := slices.Concat(packets, slices.Concat(lists()...))
	for n := range all {
		rest := fmt.Sprintf("%x", slices.Concat(all[:n], all[n+1:]))
		spoil(all[n])
		if is := fmt.Sprintf("%x", slices.Concat(all[:n], all[n+1:])); is != rest {
			t.Errorf("answers share memory")
		}
	}
	levels, _ := w.x.Depth("ABC", api.Sell)
	levels = levels[:cap(levels)]
	for n := range levels {
		levels[n] = api.Level{Price: 1}
	}
	clear(packets[:cap(packets)])
	if is := state(); is != was {
		t.Errorf("%s\nwas\n%s", is, was)
	}
	w.sends(b, limit("d", "A2", api.Buy, 1, 1000))
	if l := w.x.Packets(); len(l) != 1 || numberOf(l[0]) != 5 {
		t.Errorf("packets %x", l)
	}
	closed := w.x.Close()
	clear(closed[:cap(closed)])
	w.balance("A1", "ABC", -8, 8003)
}
