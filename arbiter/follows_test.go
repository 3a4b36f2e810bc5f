package arbiter

import (
	"fmt"
	"math/rand"
	"slices"
	"testing"

	"outcry/api"
	"outcry/clock"
	"outcry/engine"
	"outcry/feed"
	"outcry/viewer"
)

// What follows in the chapter, and P11 of DOC.md over two lines.

// comes is a packet that comes over a line at a time.
type comes struct {
	at     int64
	line   int
	number int
	packet []byte
}

// TestFollowsRising: whatever comes, what is given has rising numbers, none twice, and came as it is.
func TestFollowsRising(t *testing.T) {
	for seed := range int64(100) {
		r := rand.New(rand.NewSource(seed))
		a := newArbiter(t, 1+r.Intn(12), r.Int63n(6))
		came := map[string]bool{}
		last, now := 0, int64(0)
		for range 500 {
			now += r.Int63n(3)
			b := packet(max(1, a.Next()+r.Intn(12)-3), fmt.Sprint(r.Intn(3)))
			if r.Intn(10) == 0 {
				b[r.Intn(len(b))]++
			}
			came[string(b)] = true
			l, _ := a.Hear(r.Intn(2), b, now)
			if r.Intn(4) == 0 {
				l = append(l, a.Tick(now)...)
			}
			for _, b := range l {
				n, ok := right(b)
				if !ok || !came[string(b)] || n <= last {
					t.Fatalf("walk %d: it gives %x behind %d", seed, b, last)
				}
				last = n
			}
			if len(l) > 0 && a.Next() != last+1 {
				t.Fatalf("walk %d: Next is %d behind %d", seed, a.Next(), last)
			}
		}
	}
}

// TestFollowsAllAreGiven: if of each number one packet comes, never a window ahead, and within patience, all are given in order.
func TestFollowsAllAreGiven(t *testing.T) {
	const patience, many = 20, 400
	ahead := 0
	for seed := range int64(40) {
		r := rand.New(rand.NewSource(seed))
		var l []comes
		sent := int64(0)
		for n := 1; n <= many; n++ {
			sent += 1 + r.Int63n(3) // so fewer than 20 are on their way
			sure := r.Intn(2)
			for line := range 2 {
				if line == sure || r.Intn(2) == 0 {
					l = append(l, comes{at: sent + r.Int63n(patience), line: line, number: n})
				}
			}
		}
		slices.SortStableFunc(l, func(x, y comes) int { return int(x.at - y.at) })
		a := newArbiter(t, 20, patience)
		var given []string
		for i, x := range l {
			if x.number > a.Next() {
				ahead++
			}
			got, e := a.Hear(x.line, packet(x.number, ".."), x.at)
			if e != api.OK {
				t.Fatal(e)
			}
			given = append(given, texts(got)...)
			if i+1 < len(l) && l[i+1].at > x.at { // all that came at this time have come
				given = append(given, texts(a.Tick(x.at))...)
			}
		}
		for i, b := range given {
			if b != string(packet(i+1, "..")) {
				t.Fatalf("walk %d: it gives %x at the place %d", seed, b, i)
			}
		}
		if len(given) != many || a.Next() != many+1 {
			t.Fatalf("walk %d: %d were given, Next is %d", seed, len(given), a.Next())
		}
	}
	if ahead < 2000 {
		t.Errorf("only %d came ahead of their turn", ahead)
	}
}

// TestFollowsNothingIsKept: after as many Ticks as there are gaps, each of them patience later, nothing is kept.
func TestFollowsNothingIsKept(t *testing.T) {
	most := 0
	for seed := range int64(200) {
		r := rand.New(rand.NewSource(seed))
		patience := r.Int63n(50)
		a := newArbiter(t, 60, patience)
		now := int64(0)
		for range 1 + r.Intn(30) {
			now += r.Int63n(5)
			a.Hear(r.Intn(2), packet(1+r.Intn(60), ".."), now)
		}
		gaps := len(a.Wants(api.MaxTime))
		most = max(most, gaps)
		for gap := range gaps {
			now += patience + r.Int63n(3)
			if len(a.Tick(now)) == 0 {
				t.Fatalf("walk %d: nothing is given at the gap %d of %d", seed, gap+1, gaps)
			}
		}
		if len(a.kept) != 0 || len(a.Wants(api.MaxTime)) != 0 || len(a.Tick(api.MaxTime)) != 0 {
			t.Fatalf("walk %d: behind %d gaps %d are kept", seed, gaps, len(a.kept))
		}
	}
	if most < 8 {
		t.Errorf("only %d gaps at most", most)
	}
}

const (
	aMinute = 60000
	aDay    = 1440 * aMinute
	monday  = 1709510400000 // 20240304
)

func listed() []string { return []string{"ABC", "XY"} }

func newEngine(t *testing.T) *engine.Engine {
	t.Helper()
	c, _ := clock.NewCalendar()
	var l []api.Instrument
	for _, symbol := range listed() {
		l = append(l, api.Instrument{
			Symbol: symbol, Lot: 1, Most: api.MaxQty, Steps: []api.Step{{From: 0, Tick: 1}}, Reference: 1000,
			Turns: []api.Turn{{Minute: 480, Phase: api.PreOpen}, {Minute: 540, Phase: api.Trading}, {Minute: 1000, Phase: api.Closing}, {Minute: 1010, Phase: api.Closed}},
		})
	}
	x, e := engine.New(l, []api.Account{{Name: "A1"}, {Name: "A2"}}, c)
	if e != api.OK {
		t.Fatal(e)
	}
	return x
}

// anyCommand makes the n-th one up.
func anyCommand(r *rand.Rand, n int, at int64) api.Command {
	c := api.Command{Kind: api.DoNew, Time: at, Owner: 1 + r.Intn(2), O: api.Order{
		Name: fmt.Sprint("o", n), Account: []string{"A1", "A2"}[r.Intn(2)], Symbol: listed()[r.Intn(2)], Side: 1 + r.Intn(2), Type: api.Limit,
		Life: []int{api.Day, api.GTC, api.IOC}[r.Intn(3)], Price: 980 + r.Int63n(40), Qty: 1 + r.Int63n(500),
	}}
	if r.Intn(6) == 0 {
		c.Kind, c.Name = api.DoCancel, fmt.Sprint("o", n-1-r.Intn(12))
	}
	return c
}

// books writes what a viewer shows.
func books(v *viewer.Viewer) string {
	text := ""
	for _, symbol := range listed() {
		price, qty, all := v.Last(symbol)
		text += fmt.Sprint(v.Phase(symbol), price, qty, all, v.Depth(symbol, api.Buy), v.Depth(symbol, api.Sell))
	}
	return text
}

// shows: a viewer has an engine's books as they are.
func shows(t *testing.T, v *viewer.Viewer, x *engine.Engine) {
	t.Helper()
	for _, symbol := range listed() {
		phase, _, _ := x.Phase(symbol)
		if v.Phase(symbol) != phase {
			t.Fatalf("the phase of %s: %d, want %d", symbol, v.Phase(symbol), phase)
		}
		for side := api.Buy; side <= api.Sell; side++ {
			want, _ := x.Depth(symbol, side)
			if got := v.Depth(symbol, side); !slices.Equal(got, want) {
				t.Fatalf("Depth(%s, %d): %v, want %v", symbol, side, got, want)
			}
		}
	}
}

// follower follows a feed over two lines.
type follower struct {
	*Arbiter
	t       *testing.T
	r       *rand.Rand
	books   *viewer.Viewer
	history []string // what was told behind each packet, by its number
	on      []comes  // the packets that are on their way
	last    int      // the number that was given last
}

// hand hands on what was given; what is shown is what was told behind some packet, and who misses one says so.
func (f *follower) hand(l [][]byte) {
	f.t.Helper()
	for _, b := range l {
		n, _ := right(b)
		if e := f.books.Hear(b); e != api.OK || n <= f.last {
			f.t.Fatalf("it gives %d behind %d: %x (%d)", n, f.last, b, e)
		}
		f.last = n
		f.check()
	}
}

func (f *follower) check() {
	f.t.Helper()
	n := f.books.Number()
	if got := books(f.books); got != f.history[n] {
		f.t.Fatalf("as of %d it shows\n%s, want\n%s", n, got, f.history[n])
	}
	if gapped, _ := f.books.Gapped(); gapped != (f.last > n) {
		f.t.Fatalf("gapped %v; %d was given, as of %d", gapped, f.last, n)
	}
}

// send sends packets over both lines; some are lost, doubled or spoilt, and all take their time.
func (f *follower) send(packets [][]byte, now int64) {
	for _, b := range packets {
		for line := range 2 {
			for range []int{0, 0, 1, 1, 1, 1, 2}[f.r.Intn(7)] {
				x := comes{at: now + f.r.Int63n(3*aMinute), line: line, packet: slices.Clone(b)}
				if f.r.Intn(12) == 0 {
					x.packet[f.r.Intn(len(b))] ^= byte(1 + f.r.Intn(255))
				}
				f.on = append(f.on, x)
			}
		}
	}
	slices.SortStableFunc(f.on, func(x, y comes) int { return int(x.at - y.at) })
}

// arrive lets come what has come by a time.
func (f *follower) arrive(now int64) {
	f.t.Helper()
	for len(f.on) > 0 && f.on[0].at <= now {
		x := f.on[0]
		f.on = f.on[1:]
		l, e := f.Hear(x.line, x.packet, x.at)
		if _, ok := right(x.packet); ok != (e == api.OK) {
			f.t.Fatalf("Hear(%x): %d", x.packet, e)
		}
		f.hand(l)
	}
}

// catchUp gets what is missing: of the feed's packets those that are kept there, or a snapshot.
func (f *follower) catchUp(news *feed.Feed, now int64) {
	l := news.Again(f.books.Number()+1, news.Next()-1)
	if f.r.Intn(2) == 0 {
		l = news.Snapshot(now)
	}
	for _, b := range l {
		if e := f.books.Hear(b); e != api.OK {
			f.t.Fatalf("Hear(%x): %d", b, e)
		}
	}
	f.check()
}

// ask asks for what the arbiter wants, and hands it in over a line.
func (f *follower) ask(news *feed.Feed, now int64) {
	f.t.Helper()
	rows := f.Wants(now)
	for _, row := range rows {
		for _, b := range news.Again(row[0], row[1]) {
			l, e := f.Hear(f.r.Intn(2), b, now)
			if e != api.OK {
				f.t.Fatalf("Hear(%x): %d", b, e)
			}
			f.hand(l)
		}
	}
	if len(rows) > 0 && len(f.Wants(api.MaxTime)) > 0 {
		f.t.Fatalf("behind all that was wanted: %v", f.Wants(api.MaxTime))
	}
}

// TestFollowsTheFeed: over two lines that lose, double and spoil packets, and let them overtake, the books are those behind some packet, or a gap is told; and who gets what is missing, or a snapshot, has them as they are.
func TestFollowsTheFeed(t *testing.T) {
	gaps, asked, caught, late := 0, 0, 0, 0
	for seed := range int64(16) {
		r := rand.New(rand.NewSource(seed))
		x := newEngine(t)
		news, _ := feed.New(listed())
		all, _ := viewer.New(listed())
		v, _ := viewer.New(listed())
		f := &follower{Arbiter: newArbiter(t, 2+r.Intn(60), r.Int63n(3*aMinute)), t: t, r: r, books: v, history: []string{books(all)}}
		now := int64(monday + 485*aMinute)
		for n := range 400 {
			c := anyCommand(r, n, now)
			packets := news.Tell(x.Do(c), now)
			for _, b := range packets {
				all.Hear(b)
				f.history = append(f.history, books(all))
			}
			f.send(packets, now)
			f.arrive(now)
			f.hand(f.Tick(now))
			if r.Intn(3) == 0 && len(f.Wants(now)) > 0 {
				asked++
				f.ask(news, now)
			}
			if gapped, _ := v.Gapped(); gapped {
				gaps++
			}
			if r.Intn(25) == 0 {
				caught++
				f.catchUp(news, now)
				shows(t, v, x)
			}
			now += r.Int63n(aMinute)
			if now%aDay > 1015*aMinute {
				now += aDay - now%aDay + 485*aMinute
			}
		}
		f.arrive(api.MaxTime)
		f.catchUp(news, now)
		shows(t, v, x)
		late += f.Lines()[0][2] + f.Lines()[1][2]
	}
	if gaps < 300 || asked < 200 || caught < 100 || late < 2000 {
		t.Errorf("only %d gaps, asked %d times, caught up %d times, %d were late", gaps, asked, caught, late)
	}
}

// TestFollowsWithoutALoss: who gets over one line what the other loses has the books as they are, without a gap.
func TestFollowsWithoutALoss(t *testing.T) {
	x := newEngine(t)
	news, _ := feed.New(listed())
	v, _ := viewer.New(listed())
	a := newArbiter(t, 100, 1000)
	r := rand.New(rand.NewSource(1))
	for n := range 600 {
		now := int64(monday + 545*aMinute + n*1000)
		packets := news.Tell(x.Do(anyCommand(r, n, now)), now)
		lost := make([]int, len(packets))
		for i := range packets {
			lost[i] = r.Intn(3) // the line that loses it; 2: none
		}
		for line := range 2 {
			for _, i := range r.Perm(len(packets)) {
				if lost[i] == line {
					continue
				}
				l, e := a.Hear(line, packets[i], now)
				if e != api.OK {
					t.Fatal(e)
				}
				for _, b := range l {
					if e := v.Hear(b); e != api.OK {
						t.Fatal(e)
					}
				}
			}
		}
		if gapped, _ := v.Gapped(); gapped || v.Number() != news.Next()-1 || a.Next() != news.Next() || len(a.Wants(api.MaxTime)) > 0 {
			t.Fatalf("as of %d of %d, gapped %v", v.Number(), news.Next()-1, gapped)
		}
		shows(t, v, x)
	}
}
