package client

import (
	"bytes"
	"fmt"
	"math"
	"math/rand"
	"slices"
	"strings"
	"testing"

	"outcry/api"
	"outcry/framer"
)

// walker does calls at random of a client, and of what the chapter says of it.
type walker struct {
	*rand.Rand
	t     *testing.T
	c     *Client
	r     *reading
	link  api.Link
	kind  int
	now   int64
	names int
	past  []string
	seen  map[string]int // what came about, over many walks
}

func pick[T any](w *walker, l ...T) T { return l[w.Intn(len(l))] }

func (w *walker) oneIn(n int) bool { return w.Intn(n) == 0 }

func newWalker(t *testing.T, seed int64, seen map[string]int) *walker {
	t.Helper()
	w := &walker{Rand: rand.New(rand.NewSource(seed)), t: t, seen: seen}
	w.kind = 1 + w.Intn(2)
	w.now = pick[int64](w, 0, nine, nine, nine, api.MaxTime-60*minute)
	w.link = aLink()
	w.link.Beat = pick(w, 30, 30, 1, 3600)
	w.link.Keep = pick(w, 1, 3, 50, 200)
	w.link.Slack = pick[int64](w, 0, 0, 0, 20*second)
	c, e := New(w.link, w.kind)
	if e != api.OK {
		t.Fatalf("New: %d", e)
	}
	w.c, w.r = c, newReading(w.link, w.kind)
	return w
}

// differ ends the walk, with all steps up to here.
func (w *walker) differ(form string, a ...any) {
	w.t.Helper()
	w.t.Fatalf("%s\n%s", strings.Join(w.past, "\n"), fmt.Sprintf(form, a...))
}

func (w *walker) step(form string, a ...any) {
	w.past = append(w.past, fmt.Sprintf("at %d: %s", w.now, fmt.Sprintf(form, a...)))
}

// same holds what a call answered, and what is known behind it, against what the chapter says.
func (w *walker) same(what string, got, want api.Errno) {
	w.t.Helper()
	w.seen[fmt.Sprint(what, " ", int(want))]++
	if got != want {
		w.differ("answers %d, want %d", got, want)
	}
	if got, want := w.c.View(), w.r.s.View(); got != want {
		w.differ("View: %+v, want %+v", got, want)
	}
	if got, want := w.c.Orders(), w.r.orders(); !slices.Equal(got, want) {
		w.differ("Orders: %+v, want %+v", got, want)
	}
	if got, want := w.c.Skipped(), w.r.s.Skipped(); !slices.Equal(got, want) {
		w.differ("Skipped: %v, want %v", got, want)
	}
}

// time moves the time on, or back, and gives what the next call is told.
func (w *walker) time() int64 {
	if w.oneIn(50) {
		return pick[int64](w, -1, tooLate, math.MinInt64, math.MaxInt64)
	}
	beat := int64(w.link.Beat) * second
	switch {
	case w.oneIn(60):
		w.now += beat + w.Int63n(beat)
	case w.oneIn(12):
		w.now += w.Int63n(beat/3 + 1)
	case w.oneIn(9):
		return max(0, w.now-w.Int63n(9000))
	}
	w.now = min(w.now, api.MaxTime)
	return w.now
}

// name gives a name that is most often a new one, if that is asked for, and else one of the last.
func (w *walker) name(isNew bool) string {
	if w.oneIn(40) {
		return pick(w, "", "none", "a b", strings.Repeat("z", 21))
	}
	if isNew && !w.oneIn(8) {
		w.names++
		return fmt.Sprint("n", w.names)
	}
	return fmt.Sprint("n", max(1, w.names-w.Intn(8)))
}

// orderName gives most often one by which an order is known.
func (w *walker) orderName() string {
	if len(w.r.things) == 0 || w.oneIn(6) {
		return w.name(false)
	}
	return w.r.things[max(0, len(w.r.things)-1-w.Intn(6))].name
}

func (w *walker) connect() {
	now := w.time()
	w.step("Connect(%d)", now)
	w.same("Connect", w.c.Connect(now), w.r.connect(now))
}

func (w *walker) drop() {
	now := w.time()
	w.step("Drop(%d)", now)
	w.same("Drop", w.c.Drop(now), w.r.drop(now))
}

func (w *walker) order() {
	m := newOrder(w.name(true))
	m.Side = 1 + w.Intn(2)
	m.Symbol = pick(w, "ABC", "XY")
	switch w.Intn(15) {
	case 0:
		m.Price = 0
	case 1:
		m = pick(w, kinds()...)
	case 2:
		m.Seq, m.Sender, m.Dup, m.OrigTime = 5, "x", true, -7
	}
	now := w.time()
	w.step("Order(%+v, %d)", m, now)
	w.same("Order", w.c.Order(m, now), w.r.order(m, now))
}

func (w *walker) cancel() {
	name, fresh, now := w.orderName(), w.name(true), w.time()
	w.step("Cancel(%q, %q, %d)", name, fresh, now)
	w.same("Cancel", w.c.Cancel(name, fresh, now), w.r.cancel(name, fresh, now))
}

func (w *walker) replace() {
	name, fresh, now := w.orderName(), w.name(true), w.time()
	price, qty := pick[int64](w, 0, 1, 15000, 15000, api.MaxPrice), pick[int64](w, 1, 90, 90, 110, api.MaxQty)
	if w.oneIn(9) {
		price, qty = pick[int64](w, -1, api.MaxPrice+1, 0), pick[int64](w, 0, -1, api.MaxQty+1, math.MinInt64, 1)
	}
	w.step("Replace(%q, %q, %d, %d, %d)", name, fresh, price, qty, now)
	w.same("Replace", w.c.Replace(name, fresh, price, qty, now), w.r.replace(name, fresh, price, qty, now))
}

func (w *walker) tick() {
	now := w.time()
	w.step("Tick(%d)", now)
	w.same("Tick", w.c.Tick(now), w.r.s.Tick(now))
}

func (w *walker) out() {
	w.step("Out")
	got, ends := w.c.Out()
	want, last := w.r.out()
	if !bytes.Equal(got, want) || ends != last {
		w.differ("gives\n%q, %v, want\n%q, %v", got, ends, want, last)
	}
	f, _ := framer.New(w.kind)
	for _, x := range f.Feed(got) {
		m, _ := decode(w.kind, x.Bytes)
		w.seen[fmt.Sprint("out ", m.Kind, " ", m.Dup)]++
	}
	w.same(fmt.Sprint("Out ", ends), api.OK, api.OK)
	if ends && !w.oneIn(4) {
		w.drop()
	}
}

func (w *walker) reports() {
	w.step("Reports")
	got := w.c.Reports()
	if !slices.Equal(got, w.r.heard) {
		w.differ("gives\n%+v, want\n%+v", got, w.r.heard)
	}
	for _, m := range got {
		w.seen[fmt.Sprint("heard ", m.Kind)]++
		if m.Kind == api.Execution {
			w.seen[fmt.Sprint("exec ", m.Exec, " known ", w.r.known(m.ID) != nil)]++
		}
	}
	w.r.heard = nil
}

func (w *walker) bytes(b []byte) {
	now := w.time()
	w.step("Bytes(%q, %d)", b, now)
	w.same("Bytes", w.c.Bytes(b, now), w.r.bytes(b, now))
}

// execution: most are of orders that are known.
func (w *walker) execution() api.Msg {
	m := happened(w.orderName(), 1+w.Intn(8), 1+w.Intn(6), w.Int63n(50), w.Int63n(50))
	m.OrderID = w.Intn(4)
	switch m.Exec {
	case 3:
		m.LastPrice, m.LastQty = 1+w.Int63n(20000), 1+w.Int63n(100)
		if w.oneIn(9) {
			m.LastPrice, m.LastQty = api.MaxPrice, api.MaxQty
		}
	case 5:
		m.OrigID, m.ID = m.ID, pick(w, w.name(false), w.name(false), w.orderName(), w.name(true))
	}
	if w.oneIn(8) {
		m.OrigID = pick(w, "", w.orderName())
	}
	return m
}

// message gives what a peer may say.
func (w *walker) message() api.Msg {
	switch n := w.Intn(20); {
	case n < 13:
		return w.execution()
	case n < 16:
		return pick(w, kinds()[api.NewOrder-1:]...)
	case n < 18:
		return pick(w, kinds()[:api.SequenceReset]...)
	case n < 19:
		in := w.r.s.View().In
		return api.Msg{Kind: api.SequenceReset, Fill: !w.oneIn(8), Next: in + w.Intn(5), Text: pick(w, "", "lost")}
	}
	if w.oneIn(4) {
		return pick(w, kinds()...)
	}
	return api.Msg{Kind: api.ResendRequest, Begin: 1 + w.Intn(w.r.s.View().Out+1)}
}

// sign gives a message what the peer puts there, most often the next number.
func (w *walker) sign(m api.Msg, n int) api.Msg {
	m.Sender, m.Target, m.Time = "EX", "FIRM", w.now
	m.Seq = w.r.s.View().In + n
	if w.oneIn(15) {
		m.Seq += w.Intn(4)
	}
	if w.oneIn(60) {
		m.Seq = max(1, m.Seq-1-w.Intn(3))
	}
	if w.oneIn(30) {
		m.Dup = true
	}
	if w.oneIn(100) {
		m.Sender = pick(w, "FIRM", "OTHER")
	}
	if w.oneIn(100) {
		m.Target = pick(w, "EX", "OTHER")
	}
	return m
}

// hears lets something come, in one piece or in more, perhaps spoilt.
func (w *walker) hears() {
	var stream []byte
	for n := range 1 + w.Intn(pick(w, 1, 1, 5)) {
		m := w.sign(w.message(), n)
		if w.r.s.View().State == api.Asking && !w.oneIn(20) {
			m = w.sign(logon(), n)
		}
		b, e := encode(w.kind, m)
		switch {
		case e != api.OK:
			continue
		case w.oneIn(30):
			b[w.Intn(len(b))] ^= byte(1 + w.Intn(255))
		case w.oneIn(30):
			b = refused(w.t, w.kind, m)
			w.seen["a frame that is refused"]++
		}
		stream = append(stream, b...)
		if w.oneIn(40) {
			stream = append(stream, "noise8=OC"[w.Intn(9):]...)
		}
	}
	for len(stream) > 0 {
		n := len(stream)
		if w.oneIn(6) {
			n = 1 + w.Intn(n)
		}
		w.bytes(stream[:n])
		stream = stream[n:]
		if w.oneIn(90) {
			return // what stands half is never made whole
		}
		if w.oneIn(90) {
			w.drop()
			w.connect()
		}
	}
}

func (w *walker) act() {
	if w.r.s.View().State == api.Down && !w.oneIn(4) {
		w.connect()
		return
	}
	switch n := w.Intn(100); {
	case n < 45:
		w.hears()
	case n < 57:
		w.order()
	case n < 63:
		w.cancel()
	case n < 69:
		w.replace()
	case n < 80:
		w.out()
	case n < 90:
		w.reports()
	case n < 96:
		w.tick()
	case n < 98:
		w.connect()
	default:
		w.drop()
	}
}

func TestWalks(t *testing.T) {
	const parts, walks, calls = 4, 100, 300
	var seen [parts]map[string]int
	t.Run("all", func(t *testing.T) {
		for part := range parts {
			seen[part] = map[string]int{}
			t.Run(fmt.Sprint(part), func(t *testing.T) {
				t.Parallel()
				for walk := range walks {
					w := newWalker(t, int64(part*walks+walk), seen[part])
					for range calls {
						w.act()
					}
					w.out()
					w.reports()
				}
			})
		}
	})
	// A walk that does not come across something says nothing of it.
	for _, what := range []string{
		"Connect 0", "Connect 1", "Connect 2", "Drop 0", "Drop 1", "Drop 2", "Tick 0", "Tick 1", "Bytes 0", "Bytes 1", "Bytes 2",
		"Order 0", "Order 1", "Order 30", "Order 31", "Order 120", "Cancel 0", "Cancel 1", "Cancel 31", "Cancel 120", "Cancel 121",
		"Replace 0", "Replace 1", "Replace 31", "Replace 120", "Replace 121", "Out false 0", "Out true 0", "a frame that is refused",
		"heard 8", "heard 9", "heard 10", "heard 11", "heard 12", "heard 13", "heard 14", "heard 15", "heard 16", "heard 17",
		"exec 1 known true", "exec 2 known true", "exec 3 known true", "exec 4 known true", "exec 5 known true", "exec 6 known true", "exec 7 known true", "exec 8 known true",
		"exec 3 known false", "exec 5 known false",
		"out 1 false", "out 2 false", "out 3 false", "out 5 true", "out 6 false", "out 7 false", "out 8 false", "out 9 false", "out 10 false", "out 8 true", "out 9 true", "out 10 true",
	} {
		sum := 0
		for _, part := range seen {
			sum += part[what]
		}
		if sum < 5 {
			t.Errorf("%s: %d times alone", what, sum)
		}
		t.Logf("%s: %d", what, sum)
	}
}
