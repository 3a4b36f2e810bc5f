package viewer

import (
	"fmt"
	"math/rand"
	"slices"
	"testing"

	"outcry/api"
	"outcry/clock"
	"outcry/engine"
	"outcry/feed"
)

// What follows in the chapter, and P11 of DOC.md as far as one line of the feed reaches.

const (
	aMinute = 60000
	aDay    = 1440 * aMinute
	monday  = 1709510400000 // 20240304
)

func listed() []string { return []string{"ABC", "XY", "Z"} }

func newEngine(t *testing.T) *engine.Engine {
	t.Helper()
	c, e := clock.NewCalendar()
	if e != api.OK {
		t.Fatal(e)
	}
	var l []api.Instrument
	for _, symbol := range listed() {
		l = append(l, api.Instrument{
			Symbol: symbol, Lot: 1, Most: api.MaxQty, Steps: []api.Step{{From: 0, Tick: 1}}, Reference: 1000,
			Turns: []api.Turn{{Minute: 480, Phase: api.PreOpen}, {Minute: 540, Phase: api.Trading}, {Minute: 1000, Phase: api.Closing}, {Minute: 1010, Phase: api.Closed}},
		})
	}
	x, e := engine.New(l, []api.Account{{Name: "A1"}, {Name: "A2"}, {Name: "A3"}}, c)
	if e != api.OK {
		t.Fatal(e)
	}
	return x
}

// randomDays makes commands up, over some days.
func randomDays(r *rand.Rand, many int) []api.Command {
	var l []api.Command
	at := int64(monday + 485*aMinute)
	for n := range many {
		o := api.Order{
			Name: fmt.Sprint("o", n), Account: []string{"A1", "A2", "A3"}[r.Intn(3)], Symbol: listed()[r.Intn(3)], Side: 1 + r.Intn(2), Type: api.Limit,
			Life: []int{api.Day, api.GTC, api.GTC, api.GTC, api.IOC}[r.Intn(5)], Price: 960 + r.Int63n(80), Qty: 1 + r.Int63n(500),
		}
		if r.Intn(4) > 0 { // most are far off, so that many wait
			o.Price = 995 + r.Int63n(200)
			if o.Side == api.Buy {
				o.Price = 2000 - o.Price
			}
		}
		c := api.Command{Kind: api.DoNew, Time: at, Owner: 1 + r.Intn(2), O: o}
		ahead := fmt.Sprint("o", n-1-r.Intn(12))
		switch r.Intn(24) {
		case 0, 1:
			c.Kind, c.Name = api.DoCancel, ahead
		case 2, 3:
			c.Kind, c.Name, c.O = api.DoReplace, ahead, api.Order{Name: o.Name, Price: o.Price, Qty: o.Qty}
		case 4:
			c.Kind, c.O = []int{api.DoHalt, api.DoResume, api.DoResume}[r.Intn(3)], api.Order{Symbol: o.Symbol}
		}
		l = append(l, c)
		at += r.Int63n(2 * aMinute)
		if at%aDay > 1015*aMinute {
			at += aDay - at%aDay + 485*aMinute
		}
	}
	return l
}

// same: a viewer that knows all shows an engine's books.
func same(t *testing.T, v *Viewer, x *engine.Engine) {
	t.Helper()
	for _, symbol := range listed() {
		phase, _, _ := x.Phase(symbol)
		if v.Phase(symbol) != phase {
			t.Fatalf("the phase of %s: %d, want %d", symbol, v.Phase(symbol), phase)
		}
		for side := api.Buy; side <= api.Sell; side++ {
			want, _ := x.Depth(symbol, side)
			if got := v.Depth(symbol, side); !slices.Equal(got, want) {
				t.Fatalf("Depth(%s, %d): %v, want %v", symbol, side, got, want)
			}
		}
	}
}

// listener is a viewer, and what was handed to it.
type listener struct {
	*Viewer
	t       *testing.T
	history []string // what is to be told behind each packet, by its number
	greater int      // the greatest number of changes since n is what it is, or since a snapshot was taken in
}

// hears hands a packet on, and holds what follows in the chapter.
func (l *listener) hears(b []byte) {
	l.t.Helper()
	was := l.Number()
	missed, _ := l.Gapped()
	e := l.Hear(b)
	h, right := hearBytes(b, len(listed()))
	if (e == api.OK) != right {
		l.t.Fatalf("Hear(%x): %d", b, e)
	}
	n := l.Number()
	if n < was {
		l.t.Fatalf("the number %d behind %d", n, was)
	}
	if got := books(l.Viewer, listed()); got != l.history[n] {
		l.t.Fatalf("as of %d it shows\n%s, want\n%s", n, got, l.history[n])
	}
	if right && h.kind == 1 {
		l.greater = max(l.greater, h.number)
	}
	gapped, from := l.Gapped()
	if right && h.kind == 2 && h.number == n && (n > was || missed && !gapped) { // it was taken in
		l.greater = n
	}
	if !gapped && (from != 0 || l.greater > n) || gapped && (from != n+1 || l.greater <= n) {
		l.t.Fatalf("gapped %v, %d; the number %d; %d came", gapped, from, n, l.greater)
	}
}

// line is packets as they come from a line: some are lost, come twice, late or spoilt.
func line(r *rand.Rand, packets [][]byte, late *[][]byte) [][]byte {
	var l [][]byte
	for _, b := range packets {
		switch r.Intn(12) {
		case 0:
			continue
		case 1:
			l = append(l, b)
		case 2:
			*late = append(*late, b)
			continue
		case 3:
			spoilt := slices.Clone(b)
			spoilt[r.Intn(len(b))] ^= byte(1 + r.Intn(255))
			l = append(l, spoilt)
		case 4:
			l = append(l, b[:r.Intn(len(b))])
		}
		l = append(l, b)
	}
	for r.Intn(4) == 0 && len(*late) > 0 {
		i := r.Intn(len(*late))
		l = append(l, (*late)[i])
		*late = slices.Delete(*late, i, i+1)
	}
	return l
}

// TestFollowsTheFeed: whatever becomes of packets on their way, what is shown is what was told behind some packet; and who gets what is missing, or a snapshot, shows the engine's books.
func TestFollowsTheFeed(t *testing.T) {
	gaps, again, joined, parts := 0, 0, 0, 0
	for seed := range int64(12) {
		r := rand.New(rand.NewSource(seed))
		x := newEngine(t)
		f, e := feed.New(listed())
		if e != api.OK {
			t.Fatal(e)
		}
		all, model := newViewer(t, listed()...), newChapterViewer(listed()...)
		loses := &listener{Viewer: newViewer(t, listed()...), t: t, history: []string{books(all, listed())}}
		var late [][]byte
		for n, c := range randomDays(r, 500) {
			packets := f.Tell(x.Do(c), c.Time)
			for _, b := range packets {
				hear(t, all, b, api.OK)
				model.hear(b)
				loses.history = append(loses.history, model.known.text(len(listed())))
			}
			same(t, all, x)
			for _, b := range line(r, packets, &late) {
				loses.hears(b)
			}
			if r.Intn(20) == 0 { // a snapshot goes out, whose parts come in any order
				l := f.Snapshot(c.Time)
				parts = max(parts, len(l))
				r.Shuffle(len(l), func(i, k int) { l[i], l[k] = l[k], l[i] })
				was := loses.Number()
				for _, b := range line(r, l, &late) {
					loses.hears(b)
				}
				if loses.Number() > was {
					joined++
				}
			}
			if gapped, from := loses.Gapped(); gapped {
				gaps++
				if r.Intn(15) == 0 {
					again++
					for _, b := range f.Again(from, f.Next()-1) {
						loses.hears(b)
					}
					same(t, loses.Viewer, x)
				}
			}
			if n%100 == 99 { // who joins now, by a snapshot alone
				v := newViewer(t, listed()...)
				for _, b := range f.Snapshot(c.Time) {
					hear(t, v, b, api.OK)
				}
				same(t, v, x)
				if told(v, listed()) != told(all, listed()) {
					t.Fatalf("who joined tells\n%s, who heard all\n%s", told(v, listed()), told(all, listed()))
				}
			}
		}
	}
	if gaps < 1000 || again < 100 || joined < 30 || parts < 3 {
		t.Errorf("only %d gaps, %d were mended, %d joined, %d parts at most", gaps, again, joined, parts)
	}
}

// TestFollowsBehindASnapshot: behind a snapshot as of s, and the packets from s + 1 on, whatever comes between, n is the last of them at least.
func TestFollowsBehindASnapshot(t *testing.T) {
	for seed := range int64(30) {
		r := rand.New(rand.NewSource(seed))
		f, _ := feed.New([]string{"A"})
		var packets, shots [][]byte
		tell := func() {
			e := api.Event{Kind: api.EvLevel, Symbol: "A", Side: 1 + r.Intn(2), Level: api.Level{Price: 1 + r.Int63n(60), Qty: 1 + r.Int63n(1<<50), Orders: r.Intn(3)}}
			packets = append(packets, f.Tell([]api.Event{e, {Kind: api.EvPhase, Symbol: "A", Phase: r.Intn(6)}}, 0)...)
		}
		v := newViewer(t, "A")
		any := func(l [][]byte) {
			for range r.Intn(4) {
				if len(l) > 0 {
					v.Hear(l[r.Intn(len(l))])
				}
			}
		}
		for range 100 {
			tell()
			if r.Intn(10) == 0 {
				shots = append(shots, f.Snapshot(0)...)
			}
		}
		any(packets)
		any(shots)
		s := len(packets)
		last := f.Snapshot(0)
		for range 30 {
			tell()
		}
		for _, b := range last {
			any(packets)
			any(shots)
			v.Hear(b)
		}
		if v.Number() < s {
			t.Fatalf("walk %d: behind a snapshot as of %d: %d", seed, s, v.Number())
		}
		for k := s + 1; k <= len(packets); k++ {
			any(packets)
			any(shots)
			hear(t, v, packets[k-1], api.OK)
			if v.Number() < k {
				t.Fatalf("walk %d: behind the packet %d: %d", seed, k, v.Number())
			}
		}
	}
}
