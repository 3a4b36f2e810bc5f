package exchange

import (
	"bytes"
	"slices"
	"testing"

	"outcry/api"
	"outcry/framer"
	"outcry/viewer"
)

// The examples of the whole in DOC.md, and that of the chapter.

func newViewer(t *testing.T, symbols ...string) *viewer.Viewer {
	t.Helper()
	v, e := viewer.New(symbols)
	expect(t, "viewer.New", e, api.OK)
	return v
}

// hears hands packets to a viewer, which takes all of them.
func hears(t *testing.T, v *viewer.Viewer, l [][]byte) {
	t.Helper()
	for _, b := range l {
		if e := v.Hear(b); e != api.OK {
			t.Errorf("the packet %x: %d", b, e)
		}
	}
}

// shown: a viewer has the books as they are.
func (w *world) shown(v *viewer.Viewer, symbols ...string) {
	w.t.Helper()
	for _, symbol := range symbols {
		for side := api.Buy; side <= api.Sell; side++ {
			want, _ := w.x.Depth(symbol, side)
			if got := v.Depth(symbol, side); !slices.Equal(got, want) {
				w.t.Errorf("%s, side %d: shown %v, want %v", symbol, side, got, want)
			}
		}
	}
	if gapped, from := v.Gapped(); gapped {
		w.t.Errorf("gapped, from %d on", from)
	}
}

// isZero: the sums of all that accounts and the house have are 0.
func (w *world) isZero(symbol string) {
	w.t.Helper()
	var qty, cash int64
	for _, account := range []string{"", "A1", "A2"} {
		q, c := w.x.Balance(account, symbol)
		qty, cash = qty+q, cash+c
	}
	if qty != 0 || cash != 0 {
		w.t.Errorf("the sums are %d and %d", qty, cash)
	}
}

func TestExamples(t *testing.T) {
	const tenPast = nine + 10*minute
	w := &world{t: t, x: open(t, theSetup(), nil), now: tenPast}
	v := newViewer(t, "ABC")
	// 1
	w.tick(tenPast)
	w.packets(sealed(t, timed(1, tenPast)+"03 00 02  03 00 04  03 00 06"))
	hears(t, v, w.x.Again(1, 1))
	a, b := w.join("F1", framer.Text), w.join("F2", framer.Binary)
	// 2
	w.sends(a, limit("s", "A1", api.Sell, 10, 1000))
	w.depth("ABC", api.Sell, api.Level{Price: 1000, Qty: 10, Orders: 1})
	if l := a.Reports(); len(l) != 1 || l[0].Kind != api.Execution || l[0].Exec != 1 {
		t.Errorf("F1 is told %+v", l)
	}
	hears(t, v, w.x.Packets())
	w.shown(v, "ABC")
	// 3
	w.sends(b, limit("b", "A2", api.Buy, 4, 1001))
	w.depth("ABC", api.Sell, api.Level{Price: 1000, Qty: 6, Orders: 1})
	if l := b.Orders(); len(l) != 1 || l[0] != (api.View{Name: "b", OrderID: 2, State: 3, Done: 4, Value: 4000}) {
		t.Errorf("F2 knows %+v", l)
	}
	hears(t, v, w.x.Packets())
	w.shown(v, "ABC")
	// 4
	balances := func() {
		t.Helper()
		w.balance("A1", "ABC", -4, 4001)
		w.balance("A2", "ABC", 4, -4000)
		w.balance("", "ABC", 0, -1)
		w.isZero("ABC")
	}
	balances()
	// 5
	w.talk(a, b)
	a.Reports()
	was := w.x.Tape()
	w.sends(a, limit("o", "A2", api.Buy, 1, 900))
	if l := a.Reports(); len(l) != 1 || l[0].Exec != 2 || l[0].Reason != 161 {
		t.Errorf("F1 is told %+v", l)
	}
	if !bytes.Equal(w.x.Tape(), was) || len(commands(t, was)) != 3 {
		t.Errorf("the tape is %x, was %x", w.x.Tape(), was)
	}
	// 6
	x := w.x
	w.x = open(t, theSetup(), was)
	w.depth("ABC", api.Sell, api.Level{Price: 1000, Qty: 6, Orders: 1})
	w.depth("ABC", api.Buy)
	balances()
	if !bytes.Equal(w.x.Tape(), was) {
		t.Errorf("the tape is %x, was %x", w.x.Tape(), was)
	}
	w.x = open(t, theSetup(), was[:len(was)-3])
	w.depth("ABC", api.Sell, api.Level{Price: 1000, Qty: 10, Orders: 1})
	for _, account := range []string{"", "A1", "A2"} {
		w.balance(account, "ABC", 0, 0)
	}
	w.x = x
	// 7
	w.closes(
		api.Booking{Symbol: "ABC", Fee: 1},
		api.Booking{Account: "A1", Symbol: "ABC", Qty: -4, Cash: 4000, Fee: -1},
		api.Booking{Account: "A2", Symbol: "ABC", Qty: 4, Cash: -4000},
	)
	w.closes()
	balances()
}

// TestExampleMorning: the examples 8 and 10.
func TestExampleMorning(t *testing.T) {
	w := &world{t: t, x: open(t, theSetup(), nil), now: nine + 10*minute}
	w.tick(w.now)
	v, late := newViewer(t, "ABC"), newViewer(t, "ABC")
	w.tick(monday + day + 8*hour + 10*minute)
	a, b := w.joined()
	w.sends(a, limit("1", "A1", api.Sell, 10, 1000), limit("2", "A1", api.Sell, 5, 1002))
	w.sends(b, limit("1", "A2", api.Buy, 12, 1001), limit("2", "A2", api.Buy, 3, 990))
	w.depth("ABC", api.Sell, api.Level{Price: 1000, Qty: 10, Orders: 1}, api.Level{Price: 1002, Qty: 5, Orders: 1})
	w.depth("ABC", api.Buy, api.Level{Price: 1001, Qty: 12, Orders: 1}, api.Level{Price: 990, Qty: 3, Orders: 1})
	hears(t, v, w.x.Packets())
	w.shown(v, "ABC")
	w.tick(monday + day + 9*hour + minute)
	w.talk(a, b)
	w.depth("ABC", api.Sell, api.Level{Price: 1002, Qty: 5, Orders: 1})
	w.depth("ABC", api.Buy, api.Level{Price: 1001, Qty: 2, Orders: 1}, api.Level{Price: 990, Qty: 3, Orders: 1})
	hears(t, v, w.x.Packets())
	hears(t, late, w.x.Snapshot(w.now))
	for _, one := range []*viewer.Viewer{v, late} {
		w.shown(one, "ABC")
		// At all prices at which most is traded more is bought than sold: so it is the greatest of them.
		if price, qty, all := one.Last("ABC"); price != 1001 || qty != 10 || all != 10 || one.Phase("ABC") != api.Trading {
			t.Errorf("the last trade is %d at %d, all are %d, the phase is %d", qty, price, all, one.Phase("ABC"))
		}
	}
	w.balance("A1", "ABC", -10, 10010+2) // both have waited: each gets a maker's 2 (of 1.001)
	w.balance("A2", "ABC", 10, -10010+2)
	w.balance("", "ABC", 0, -4)
	w.tick(monday + day + 17*hour)
	w.depth("ABC", api.Sell)
	w.depth("ABC", api.Buy)
	hears(t, v, w.x.Packets())
	w.shown(v, "ABC")
	w.isZero("ABC")
	w.talk(a, b)
	states := map[string]int{}
	for _, d := range []*desk{a, b} {
		for _, o := range d.Orders() {
			states[o.Name] += o.State
		}
	}
	if states["1"] != 3+6 || states["2"] != 6+6 { // done, or expired
		t.Errorf("the orders' states %v", states)
	}
}

// TestExampleBroken: the example 9, in both protocols, broken at each byte.
func TestExampleBroken(t *testing.T) {
	for _, kind := range []int{framer.Text, framer.Binary} {
		for at := 0; ; at++ {
			w := morning(t, theSetup())
			a := w.join("F1", kind)
			expect(t, "Order", a.Order(limit("1", "A1", api.Buy, 1, 1000), w.now), api.OK)
			b, _ := a.Out()
			if at > len(b) {
				break
			}
			expect(t, "Bytes", w.x.Bytes(a.conn, b[:at], w.now), api.OK)
			expect(t, "Hangup", w.x.Hangup(a.conn, w.now), api.OK)
			expect(t, "Drop", a.Drop(w.now), api.OK)
			expect(t, "Order", a.Order(limit("2", "A1", api.Buy, 1, 999), w.now), api.OK)
			want := []api.Level(nil)
			if at == len(b) {
				want = append(want, api.Level{Price: 1000, Qty: 1, Orders: 1})
			}
			w.depth("ABC", api.Buy, want...)
			w.dial(a)
			w.talk(a)
			w.depth("ABC", api.Buy, api.Level{Price: 1000, Qty: 1, Orders: 1}, api.Level{Price: 999, Qty: 1, Orders: 1})
			l := commands(t, w.x.Tape())
			if len(l) != 3 || l[1].O.Name != "1" || l[2].O.Name != "2" {
				t.Errorf("kind %d, broken behind %d bytes: the tape %+v", kind, at, l)
			}
			if v := a.Orders(); len(v) != 2 || v[0].State != 1 || v[1].State != 1 {
				t.Errorf("kind %d, broken behind %d bytes: F1 knows %+v", kind, at, v)
			}
		}
	}
}

// TestChapterExample: that of chapter 24.
func TestChapterExample(t *testing.T) {
	s := theSetup()
	s.Instruments[0].Maker, s.Instruments[0].Taker = -1, 2
	w := &world{t: t, x: open(t, s, nil), now: nine}
	w.tick(nine)
	w.packets(sealed(t, timed(1, nine)+"03 00 02  03 00 04  03 00 06"))
	a, b := w.joined()
	w.sends(a, limit("s", "A1", api.Sell, 10, 1000))
	w.sends(b, limit("b", "A2", api.Buy, 10, 1000))
	w.balance("A1", "ABC", -10, 10001) // a fee of -1, of -0.01
	w.balance("A2", "ABC", 10, -10000) // of 0, of 0.02
	w.tick(nine + second)
	l := commands(t, w.x.Tape())
	want := []api.Command{{Kind: api.DoTime, Time: nine}, newOrder(nine, 1, "s", "A1", api.Sell, 10, 1000), newOrder(nine, 2, "b", "A2", api.Buy, 10, 1000), {Kind: api.DoTime, Time: nine + second}}
	if !slices.Equal(l, want) {
		t.Errorf("the tape %+v", l)
	}
	w.packets(sealed(t, timed(2, nine)+"01 00 02 d00f 14 02"), sealed(t, timed(3, nine)+"02 00 d00f 14  01 00 02 00 13 01"))
}
