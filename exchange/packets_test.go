package exchange

import (
	"encoding/binary"
	"encoding/hex"
	"fmt"
	"hash/crc32"
	"math"
	"slices"
	"strings"
	"testing"

	"outcry/api"
	"outcry/framer"
)

// sealed gives the bytes that are written in hex, and their Crc behind them.
func sealed(t *testing.T, written string) string {
	t.Helper()
	b, err := hex.DecodeString(strings.ReplaceAll(written, " ", ""))
	if err != nil {
		t.Fatal(err)
	}
	return string(binary.BigEndian.AppendUint32(b, crc32.ChecksumIEEE(b)))
}

// timed gives the beginning of a packet of changes, in hex.
func timed(number, at int64) string {
	b := binary.BigEndian.AppendUint32(nil, uint32(number))
	return hex.EncodeToString(binary.AppendVarint(append(b, 1, 0, 0), at))
}

// packets: those that were not handed out yet are these.
func (w *world) packets(want ...string) {
	w.t.Helper()
	got := w.x.Packets()
	if len(got) != len(want) {
		w.t.Fatalf("%d packets, want %d: %x", len(got), len(want), got)
	}
	for n := range got {
		if string(got[n]) != want[n] {
			w.t.Errorf("packet %d:\n%x, want\n%x", n, got[n], want[n])
		}
	}
}

// times: the packets that were not handed out yet have these times.
func (w *world) times(what string, want ...int64) {
	w.t.Helper()
	var got []int64
	for _, b := range w.x.Packets() {
		got = append(got, timeOf(b))
	}
	if !slices.Equal(got, want) {
		w.t.Errorf("%s: the times %d, want %d", what, got, want)
	}
}

// TestZ4Packets: each once, in order, byte by byte.
func TestZ4Packets(t *testing.T) {
	w := &world{t: t, x: open(t, theSetup(), nil), now: nine}
	w.packets()
	w.tick(nine)
	w.packets(sealed(t, timed(1, nine)+"03 00 02  03 00 04  03 00 06"))
	w.packets()
	a, b := w.joined()
	w.packets()
	w.sends(a, limit("s", "A1", api.Sell, 10, 1000))
	w.packets(sealed(t, timed(2, nine)+"01 00 02 d00f 14 02"))
	w.sends(b, limit("b", "A2", api.Buy, 4, 1000))
	w.now++
	w.sends(b, limit("c", "A2", api.Buy, 6, 1000))
	w.packets(sealed(t, timed(3, nine)+"02 00 d00f 08  01 00 02 00 07 00"), sealed(t, timed(4, nine+1)+"02 00 d00f 0c  01 00 02 00 0b 01"))
	w.packets()
	w.sends(a, limit("o", "A2", api.Sell, 10, 1000)) // no command, and so nothing to tell
	w.sends(a, with(limit("p", "A1", api.Sell, 10, 1000), func(m *api.Msg) { m.Symbol = "NONE" }))
	w.tick(nine + second)
	w.packets()
}

func TestZ4Again(t *testing.T) {
	w := morning(t, theSetup())
	a := w.join("F1", framer.Text)
	all := w.x.Again(1, 1)
	for n := range int64(250) {
		w.sends(a, limit(fmt.Sprint("o", n), "A1", api.Sell, 1, 1000+n))
		if n < 100 {
			all = append(all, w.x.Packets()...)
		}
	}
	all = append(all, w.x.Packets()...) // also those that the feed keeps no more
	if len(all) != 251 {
		t.Fatalf("%d packets", len(all))
	}
	for n, b := range all {
		if numberOf(b) != n+1 {
			t.Fatalf("the packet %d has the number %d", n+1, numberOf(b))
		}
	}
	for _, c := range []struct{ from, to, first, last int }{
		{1, 251, 52, 251}, {0, 251, 52, 251}, {math.MinInt, math.MaxInt, 52, 251}, {52, 52, 52, 52}, {51, 52, 52, 52}, {100, 102, 100, 102},
		{250, 999, 250, 251}, {251, 251, 251, 251}, {252, 999, 1, 0}, {1, 51, 1, 0}, {100, 99, 1, 0}, {math.MaxInt, math.MinInt, 1, 0}, {-5, -1, 1, 0},
	} {
		if got := w.x.Again(c.from, c.to); !samePackets(got, all[c.first-1:c.last]) {
			t.Errorf("Again(%d, %d): %d packets, want %d to %d", c.from, c.to, len(got), c.first, c.last)
		}
	}
}

// TestZ4AgainPlayed: what was played is kept, but not told; what comes then goes on behind it.
func TestZ4AgainPlayed(t *testing.T) {
	w := morning(t, theSetup())
	a, _ := w.joined()
	w.sends(a, limit("s", "A1", api.Sell, 10, 1000), limit("t", "A1", api.Sell, 5, 1001)) // two commands of one call
	was := w.x.Again(1, 99)
	w.x = open(t, theSetup(), w.x.Tape())
	w.packets()
	is := w.x.Again(1, 99)
	if len(was) != 2 || len(is) != 3 { // of each command its own
		t.Fatalf("%x, was %x", is, was)
	}
	for n, want := range []string{timed(1, nine) + "03 00 02  03 00 04  03 00 06", timed(2, nine) + "01 00 02 d00f 14 02", timed(3, nine) + "01 00 02 d20f 0a 02"} {
		if string(is[n]) != sealed(t, want) {
			t.Errorf("the packet %x", is[n])
		}
	}
	_, b := w.joined()
	w.sends(b, limit("b", "A2", api.Buy, 4, 1000))
	w.packets(sealed(t, timed(4, nine)+"02 00 d00f 08  01 00 02 00 07 00"))
}

func TestZ4Snapshot(t *testing.T) {
	w := morning(t, theSetup())
	a, b := w.joined()
	w.sends(a, limit("s", "A1", api.Sell, 10, 1000))
	w.sends(b, limit("b", "A2", api.Buy, 4, 1000))
	w.x.Packets()
	for _, now := range []int64{-1, tooLate, math.MinInt64, math.MaxInt64} {
		if l := w.x.Snapshot(now); len(l) > 0 {
			t.Errorf("Snapshot(%d): %x", now, l)
		}
	}
	for _, now := range []int64{0, 7, nine, api.MaxTime} {
		want := sealed(t, "00000003 02 00 01"+timed(0, now)[14:]+"03 00 06  05 00 d00f 08 08  01 00 02 00 0c 02")
		if l := w.x.Snapshot(now); len(l) != 1 || string(l[0]) != want {
			t.Errorf("Snapshot(%d):\n%x, want\n%x", now, l, want)
		}
	}
	w.packets()
	w.sends(b, limit("c", "A2", api.Buy, 1, 999))
	w.times("behind a snapshot as of the end of all time", nine)
}

// A call's events are told at the latest time of all calls, of which those do not count that were refused by ErrArg or ErrConn.

// tells lets a firm send an order, each at a price of its own, so that there is something to tell.
func (w *world) tells(d *desk, now int64) {
	w.t.Helper()
	n := int64(len(d.Orders()))
	expect(w.t, "Order", d.Order(limit(fmt.Sprint("o", n), "A1", api.Sell, 1, 1000+n), w.now), api.OK)
	b, _ := d.Out()
	expect(w.t, "Bytes", w.x.Bytes(d.conn, b, now), api.OK)
}

func TestLatestOfCalls(t *testing.T) {
	w := morning(t, theSetup())
	a := w.join("F1", framer.Text)
	at := int64(nine)
	moves := func(what string, e, want api.Errno) {
		t.Helper()
		expect(t, what, e, want)
		w.tells(a, nine)
		w.times(what, at)
	}
	moves("nothing", api.OK, api.OK)
	at++
	conn, e := w.x.Connect(framer.Text, at)
	moves("Connect", e, api.OK)
	at++
	moves("Bytes", w.x.Bytes(conn, nil, at), api.OK)
	at++
	moves("Bytes by which it is refused", w.x.Bytes(conn, []byte("8=FIX.4.4\x019=5\x0135=0\x0110=163\x01"), at), api.OK)
	at++
	moves("Bytes over what is refused", w.x.Bytes(conn, []byte("x"), at), api.OK)
	at++
	moves("Hangup", w.x.Hangup(conn, at), api.OK)
	at++
	moves("Tick", w.x.Tick(at), api.OK)
	for range 7 {
		at++
		_, e = w.x.Connect(framer.Binary, at)
		moves("Connect", e, api.OK)
	}
	at++
	_, e = w.x.Connect(framer.Binary, at)
	moves("a Connect too many", e, api.ErrMany)
	at += 5
	w.tells(a, at)
	w.times("the bytes of an order", at)
	later := at + second
	_, e = w.x.Connect(0, later)
	moves("Connect of no kind", e, api.ErrArg)
	_, e = w.x.Connect(framer.Text, tooLate)
	moves("Connect behind all time", e, api.ErrArg)
	_, e = w.x.Connect(framer.Text, -1)
	moves("Connect ahead of all time", e, api.ErrArg)
	for _, now := range []int64{-1, tooLate, math.MaxInt64} {
		moves("Bytes at no time", w.x.Bytes(a.conn, nil, now), api.ErrArg)
		moves("Hangup at no time", w.x.Hangup(a.conn, now), api.ErrArg)
		moves("Tick at no time", w.x.Tick(now), api.ErrArg)
	}
	moves("Bytes of no connection", w.x.Bytes(99, nil, later), api.ErrConn)
	moves("Hangup of no connection", w.x.Hangup(99, later), api.ErrConn)
	w.x.Snapshot(later)
	w.x.Out(a.conn)
	w.x.Close()
	moves("what has no part in it", api.OK, api.OK)
}

// TestLatestPlayed: what was played counts as well, but for what is no time.
func TestLatestPlayed(t *testing.T) {
	play := func(l ...api.Command) *world {
		t.Helper()
		return &world{t: t, x: open(t, theSetup(), taped(t, l...)), now: nine}
	}
	w := play(
		api.Command{Kind: api.DoTime, Time: nine},
		newOrder(nine+5, 1, "a", "A1", api.Sell, 10, 1000),
		newOrder(nine+3, 1, "b", "A1", api.Sell, 10, 1000),
		api.Command{Kind: api.DoTime, Time: tooLate},
		api.Command{Kind: api.DoTime, Time: 1000000000000000000},
		newOrder(nine+4, 1, "c", "A1", api.Sell, 10, 1000),
		api.Command{Kind: api.DoCancel, Time: nine + 8, Owner: 1, Name: "nobody", O: api.Order{Name: "x"}}, // refused, but a time
		newOrder(nine+6, 1, "d", "A1", api.Sell, 10, 1000),
	)
	var got []int64
	for _, b := range w.x.Again(1, 99) {
		got = append(got, timeOf(b))
	}
	if want := []int64{nine, nine + 5, nine + 5, nine + 5, nine + 8}; !slices.Equal(got, want) {
		t.Errorf("the times %d, want %d", got, want)
	}
	a := w.join("F1", framer.Text)
	w.tells(a, nine)
	w.times("a call ahead of it", nine+8)
	w.tells(a, nine+9)
	w.times("a call behind it", nine+9)
	// The gateway has heard nothing of that time: its own commands have the time that it was told.
	if l := commands(t, w.x.Tape()); l[8].Time != nine || l[9].Time != nine+9 {
		t.Errorf("the tape: %+v", l[8:])
	}

	w = play(api.Command{Kind: api.DoTime, Time: nine}, api.Command{Kind: api.DoTime, Time: api.MaxTime})
	w.x.Tick(nine) // nothing opens any more
	w.times("at the end of all time")
	if l := w.x.Again(1, 99); timeOf(l[len(l)-1]) != api.MaxTime {
		t.Errorf("packets %x", l)
	}
}

// TestZ10Market: orders without a price are no level, and are shown to nobody.
func TestZ10Market(t *testing.T) {
	w := &world{t: t, x: open(t, theSetup(), nil), now: nine - minute}
	w.tick(w.now)
	a, _ := w.joined()
	w.x.Packets()
	w.sends(a, with(limit("m", "A1", api.Buy, 10, 0), func(m *api.Msg) { m.Type, m.Life = api.Market, api.AtOpen }))
	w.depth("ABC", api.Buy)
	w.packets()
}
